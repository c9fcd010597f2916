/-
  readKids: the numbers of a row of bytes.
-/
import Derived.Deep.RegionLaw
import Derived.Test.YtjdbjnkmlajdoaaGreatRdA
import Derived.Test.YtjdbjnkmlajdoaaGreatSpC
namespace Go.Proofs.YtjdbjnkmlajdoaaGreat.L5
open Go.RowKit

/-- The numbers of four bytes each, from o on. -/
def kidsL (L : List UInt8) (o j : Nat) : List Int := (List.range j).map fun i => (numL (cut L (o + 4 * i) 4) : Int)

theorem kidsL_length (L : List UInt8) (o j : Nat) : (kidsL L o j).length = j := by simp [kidsL]

theorem kidsL_snoc (L : List UInt8) (o j : Nat) : kidsL L o (j + 1) = kidsL L o j ++ [(numL (cut L (o + 4 * j) 4) : Int)] := by
  unfold kidsL
  rw [List.range_succ, List.map_append]
  rfl

/-- The row so far. -/
structure Rk (w : World) (b : Nat) (L : List UInt8) (l : List Int) (v : Value) (wr : World) : Prop where
  below : Below w.heap.size w wr
  row : wr.ownsRow w.heap.size 3 1 v l.length (l.map iv)
  blk : RBlk wr b L

theorem Rk.on {w : World} {b : Nat} {L : List UInt8} {l : List Int} {v : Value} {wr wr' : World} (h : Rk w b L l v wr) (hb : Below wr.heap.size wr wr') : Rk w b L l v wr' :=
  ⟨h.below.trans (hb.mono h.below.size), owns_below h.row hb, (hb.block b h.blk.lt).trans h.blk⟩

theorem Rk.grow {w : World} {b : Nat} {L : List UInt8} {l l' : List Int} {v v' : Value} {wr w' : World} (h : Rk w b L l v wr) (hw : RBlk w b L) (hg : wr.grownBy w' v.ownBlock) {m : Nat} (hm : m = l'.length) (ho : w'.ownsRow w.heap.size 3 1 v' m (l'.map iv)) : Rk w b L l' v' w' := by
  subst hm
  have hb : Below w.heap.size w w' := h.below.grown hg h.below.size (fun k hk => (h.row.lt k hk).1)
  exact ⟨hb, ho, (hb.block b hw.lt).trans hw⟩

set_option maxRecDepth 100000 in
set_option maxHeartbeats 400000 in
theorem readKids_walk {b o m cap k : Nat} {L : List UInt8} {w : World} (hb : RBlk w b L) (hk : m = 4 * k) (hkk : k ≤ 10000) (hcap : m ≤ cap) (hl : o + m ≤ L.length) (hc : cap ≤ 9223372036854775807) :
    Calls Tryz.prog 147 #[.slice (some ⟨b, o, none⟩) m cap] w fun e w' => ∃ v, e = .returned v ∧ w'.ownsRow w.heap.size 3 1 v k ((kidsL L o k).map iv) ∧ Below w.heap.size w w' := by
  have HB : Hid (RBlk w b L) := hb
  clear hb
  go_enter Tryz.func147, Tryz.ntmps147
  have hdiv : (m : Int) / 4 = (k : Int) := by omega
  have HK : Hid (m = 4 * k) := hk
  clear hk
  go_wp2
  go_loopw [3, 8] (fun v i wr => ∃ j : Nat, j ≤ k ∧ i = .int .i64 (j : Int) ∧ Hid (Rk w b L (kidsL L o j) v wr)) (fun _ i _ => k - (intOf i).toNat)
  case atStart => exact ⟨0, Nat.zero_le _, rfl, ⟨Below.refl _ _, ⟨rfl, Or.inl ⟨rfl, rfl⟩⟩, HB.out⟩⟩
  case round =>
    obtain ⟨j, hj, rfl, HO⟩ := hrel
    by_cases hlt : j < k
    · have hlt' : (j : Int) < (k : Int) := by omega
      have hm4 : 4 * (j + 1) ≤ m := by rw [HK.out]; omega
      have h0 : (0 : Int) ≤ 4 * (j : Int) := by omega
      have h1 : 4 * (j : Int) ≤ 4 * ((j : Int) + 1) := by omega
      have h2 : 4 * ((j : Int) + 1) ≤ (cap : Int) := by omega
      go_wp2_with fail
      have h4 : 4 * (j + 1) - 4 * j = 4 := by omega
      rw [h4]
      refine (number_walk (L := L) HO.out.blk (by omega) (by omega)).mono ?_
      rintro e w5 ⟨rfl, B5⟩
      have HO5 : Hid (Rk w b L (kidsL L o j) u3 w5) := HO.out.on B5
      clear HO B5
      have HO6 : Hid (Rk w b L (kidsL L o j) u3 (w5.alloc (.cells #[.int .i64 (numL (cut L (o + 4 * j) 4) : Int)] 3))) := HO5.out.on (below_alloc _ _)
      go_wp2_with (first
        | (at_builtin
           revert HO6)
        | fail)
      intro HO6
      refine append_row (z := .int .i64 0) (by_ := 8) Tryz.underlying49 (by kernel_rfl) (by decide) rfl w.heap.size HO6.out.below.size rfl _ _ rfl u3 (kidsL L o j).length ((kidsL L o j).map iv) ([(numL (cut L (o + 4 * j) 4) : Int)].map iv) rfl HO6.out.row (by rw [kidsL_length]; omega) 1 (by omega) ⟨w5.heap.size, 0, none⟩ 1 rfl rfl (one_int w5 _ _) (one_ivs _) ?_
      intro v' W' hown hg _
      have HO7 : Hid (Rk w b L (kidsL L o (j + 1)) v' W') := HO6.out.grow HB.out hg (m := (kidsL L o j).length + 1) (by rw [kidsL_length, kidsL_length]) (by rw [kidsL_snoc, List.map_append]; exact hown)
      clear hown hg HO6 HO5
      go_wp2
      exact ⟨⟨j + 1, by omega, by go_num, HO7⟩, by simp [intOf]; omega⟩
    · have hlt' : (k : Int) ≤ (j : Int) := by omega
      have hjm : j = k := by omega
      subst hjm
      go_wp2
      go_ret
      exact ⟨_, rfl, by have := HO.out.row; rwa [kidsL_length] at this, HO.out.below⟩
end Go.Proofs.YtjdbjnkmlajdoaaGreat.L5
