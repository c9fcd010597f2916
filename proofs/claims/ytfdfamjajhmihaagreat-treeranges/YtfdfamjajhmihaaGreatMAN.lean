/-
  Encode; the document's example.
-/
import Derived.Test.YtfdfamjajhmihaaGreatMAM
import Derived.Laws.BitsAllLaws
import Derived.Deep.RegionLaw
import Derived.Test.YtfdfamjajhmihaaGreatMAG
namespace Go.Proofs.YtfdfamjajhmihaaGreat.L5
open Go.RowKit

set_option maxRecDepth 100000 in
set_option maxHeartbeats 400000 in
theorem encode_no {n : No} {a : Option Addr} {c : Nat} {a' : Option Addr} {c' : Nat} {w : World} (hr : NR w n a c a' c') (hs : n.small) (hb : n.shaped = false) :
    Calls Tryz.prog 93 #[nodeV n a c a' c'] w fun e w' => e = .returned (.tuple #[.slice none 0 0, .int .i64 15]) ∧ Below w.heap.size w w' := by
  have HB := below_alloc w (.cells #[.bool n.leaf, .slice a n.recs.length c, .slice a' n.kids.length c'] 90)
  have HR : Hid (NR (w.alloc (.cells #[.bool n.leaf, .slice a n.recs.length c, .slice a' n.kids.length c'] 90)) n a c a' c') := hr.below HB
  go_enter Tryz.func93, Tryz.ntmps93
  unfold nodeV
  go_wp2_with fail
  refine (sound_walk (n := n) (a := a) (c := c) (a' := a') (c' := c') HR.out hs).mono ?_
  rintro e w1 ⟨rfl, B1⟩
  rw [hb]
  go_wp2
  go_ret2
  exact ⟨rfl, below_on HB B1⟩

set_option maxRecDepth 100000 in
set_option maxHeartbeats 400000 in
theorem encode_long {n : No} {a : Option Addr} {c : Nat} {a' : Option Addr} {c' : Nat} {w : World} (hr : NR w n a c a' c') (hs : n.small) (hb : n.shaped = true) (hl : 1024 < n.size) :
    Calls Tryz.prog 93 #[nodeV n a c a' c'] w fun e w' => e = .returned (.tuple #[.slice none 0 0, .int .i64 8]) ∧ Below w.heap.size w w' := by
  have HB := below_alloc w (.cells #[.bool n.leaf, .slice a n.recs.length c, .slice a' n.kids.length c'] 90)
  have HR : Hid (NR (w.alloc (.cells #[.bool n.leaf, .slice a n.recs.length c, .slice a' n.kids.length c'] 90)) n a c a' c') := hr.below HB
  have hz : w.heap.size < (w.alloc (.cells #[.bool n.leaf, .slice a n.recs.length c, .slice a' n.kids.length c'] 90)).heap.size := by simp
  obtain ⟨b0, b1, b2⟩ := box_cells w (.bool n.leaf) (.slice a n.recs.length c) (.slice a' n.kids.length c') 90
  have hl' : (1024 : Int) < (n.size : Int) := by omega
  go_enter Tryz.func93, Tryz.ntmps93
  unfold nodeV
  go_wp2_with fail
  refine (sound_walk (n := n) (a := a) (c := c) (a' := a') (c' := c') HR.out hs).mono ?_
  rintro e w1 ⟨rfl, B1⟩
  rw [hb]
  obtain ⟨hc1, _⟩ := bcell B1
  go_wp2_with fail
  refine (size_walk (n := n) (a := a) (c := c) (a' := a') (c' := c') (HR.out.below B1) hs).mono ?_
  rintro e w2 ⟨rfl, B2⟩
  go_wp2
  go_ret2
  exact ⟨rfl, below_on HB (below_on B1 B2)⟩

set_option maxRecDepth 100000 in
set_option maxHeartbeats 400000 in
theorem encode_ok {n : No} {a : Option Addr} {c : Nat} {a' : Option Addr} {c' : Nat} {w : World} (hr : NR w n a c a' c') (hs : n.small) (hb : n.shaped = true) (hl : n.size ≤ 1024) :
    Calls Tryz.prog 93 #[nodeV n a c a' c'] w fun e w' => ∃ b, e = .returned (.tuple #[.slice (some ⟨b, 0, none⟩) 1024 1024, .int .i64 0]) ∧ w.heap.size ≤ b ∧ Blk w' b (pageL n.toNd) ∧ Below w.heap.size w w' := by
  have HB := below_alloc w (.cells #[.bool n.leaf, .slice a n.recs.length c, .slice a' n.kids.length c'] 90)
  have HR : Hid (NR (w.alloc (.cells #[.bool n.leaf, .slice a n.recs.length c, .slice a' n.kids.length c'] 90)) n a c a' c') := hr.below HB
  have hz : w.heap.size < (w.alloc (.cells #[.bool n.leaf, .slice a n.recs.length c, .slice a' n.kids.length c'] 90)).heap.size := by simp
  obtain ⟨b0, b1, b2⟩ := box_cells w (.bool n.leaf) (.slice a n.recs.length c) (.slice a' n.kids.length c') 90
  have hl' : (n.size : Int) ≤ 1024 := by omega
  go_enter Tryz.func93, Tryz.ntmps93
  unfold nodeV
  go_wp2_with fail
  refine (sound_walk (n := n) (a := a) (c := c) (a' := a') (c' := c') HR.out hs).mono ?_
  rintro e w1 ⟨rfl, B1⟩
  rw [hb]
  obtain ⟨hc1, _⟩ := bcell B1
  go_wp2_with fail
  refine (size_walk (n := n) (a := a) (c := c) (a' := a') (c' := c') (HR.out.below B1) hs).mono ?_
  rintro e w2 ⟨rfl, B2⟩
  obtain ⟨hc2, _⟩ := bcell (below_on B1 B2)
  have HR2 : Hid (NR w2 n a c a' c') := HR.out.below (below_on B1 B2)
  have B3 := below_on HB (below_on B1 B2)
  clear hc1 B1 B2 HR
  go_wp2_with fail
  refine (written_walk (n := n) (a := a) (c := c) (a' := a') (c' := c') HR2.out hb hl).mono ?_
  rintro e w3 ⟨b, rfl, hbl, hk, B4⟩
  have hsz := B3.size
  go_wp2
  go_ret2
  exact ⟨b, rfl, by omega, hk, below_on B3 B4⟩

/-- The text of some bytes of a block. -/
theorem conv_blk {W : World} {b : Nat} {L : List UInt8} (h : Blk W b L) (o m cap : Nat) (hl : o + m ≤ L.length) : (convert 102 9 (.slice (some ⟨b, o, none⟩) m cap)).run Tryz.prog W = .ok (.string ⟨(cut L o m).toArray⟩) W := by
  have hm : (cut L o m).length = m := by unfold cut; simp; omega
  have := run_convert_bytes_back (P := Tryz.prog) W 102 9 5 ⟨b, o, none⟩ cap (cut L o m) Tryz.underlying102 Tryz.underlying5 Tryz.underlying9 (fun j hj => by
    rw [show (⟨b, o, none⟩ : Addr).add j = ⟨b, o + j, none⟩ by unfold Addr.add; split <;> simp_all, h.cell (o + j) (by omega)]
    have e : (cut L o m)[j] = L[o + j]'(by omega) := by
      have h1 : (cut L o m)[j]? = L[o + j]? := by
        unfold cut
        rw [List.getElem?_take, if_pos (by omega), List.getElem?_drop]
      rw [List.getElem?_eq_getElem hj, List.getElem?_eq_getElem (by omega)] at h1
      exact Option.some.inj h1
    rw [e])
  rwa [hm] at this

/-- The text of some bytes of a block that is read. -/
theorem conv_rblk {W : World} {b : Nat} {L : List UInt8} (h : RBlk W b L) (o m cap : Nat) (hl : o + m ≤ L.length) : (convert 102 9 (.slice (some ⟨b, o, none⟩) m cap)).run Tryz.prog W = .ok (.string ⟨(cut L o m).toArray⟩) W := by
  have hm : (cut L o m).length = m := by unfold cut; simp; omega
  have := run_convert_bytes_back (P := Tryz.prog) W 102 9 5 ⟨b, o, none⟩ cap (cut L o m) Tryz.underlying102 Tryz.underlying5 Tryz.underlying9 (fun j hj => by
    rw [show (⟨b, o, none⟩ : Addr).add j = ⟨b, o + j, none⟩ by unfold Addr.add; split <;> simp_all, h.cell (o + j) (by omega)]
    have e : (cut L o m)[j] = L[o + j]'(by omega) := by
      have h1 : (cut L o m)[j]? = L[o + j]? := by
        unfold cut
        rw [List.getElem?_take, if_pos (by omega), List.getElem?_drop]
      rw [List.getElem?_eq_getElem hj, List.getElem?_eq_getElem (by omega)] at h1
      exact Option.some.inj h1
    rw [e])
  rwa [hm] at this

end Go.Proofs.YtfdfamjajhmihaaGreat.L5
/-
  Numbers are read out of blocks of bytes.
-/
namespace Go.Proofs.YtfdfamjajhmihaaGreat.L5
open Go.RowKit

/-- The number that bytes write, the highest first. -/
def numL (l : List UInt8) : Nat := l.foldl (fun n c => n * 256 + c.toNat) 0

theorem numL_snoc (l : List UInt8) (x : UInt8) : numL (l ++ [x]) = numL l * 256 + x.toNat := by simp [numL]

theorem numL_lt (l : List UInt8) : ∀ x : Nat, l.foldl (fun n c => n * 256 + c.toNat) x < (x + 1) * 256 ^ l.length := by
  induction l with
  | nil => intro x; simp
  | cons c l ih =>
    intro x
    have h := ih (x * 256 + c.toNat)
    have hc := c.toNat_lt
    rw [List.foldl_cons, List.length_cons, Nat.pow_succ]
    refine Nat.lt_of_lt_of_le h ?_
    rw [Nat.mul_comm (256 ^ l.length) 256, ← Nat.mul_assoc]
    exact Nat.mul_le_mul_right _ (by omega)

theorem i64_or_nat (a b : Nat) (ha : a < 9223372036854775808) (hb : b < 9223372036854775808) : bits .or .i64 (a : Int) (b : Int) = ((a ||| b : Nat) : Int) := by
  have hx : a ||| b < 2 ^ 63 := Nat.or_lt_two_pow (by omega) (by omega)
  show IntKind.i64.wrap ((BitVec.ofInt 64 (a : Int) ||| BitVec.ofInt 64 (b : Int)).toNat : Int) = _
  rw [BitVec.toNat_or, ofInt_u64 a (by omega), ofInt_u64 b (by omega), IntKind.wrap_i64]
  omega

theorem cut_snoc (L : List UInt8) (o j : Nat) (h : o + j < L.length) : cut L o (j + 1) = cut L o j ++ [L[o + j]] := by
  unfold cut
  rw [List.take_succ_eq_append_getElem (by simp; omega)]
  simp

theorem cut_length (L : List UInt8) (o j : Nat) (h : o + j ≤ L.length) : (cut L o j).length = j := by
  unfold cut
  simp; omega

set_option maxRecDepth 100000 in
set_option maxHeartbeats 400000 in
theorem number_walk {b o m cap : Nat} {L : List UInt8} {w : World} (hb : RBlk w b L) (hm : m ≤ 4) (hl : o + m ≤ L.length) :
    Calls Tryz.prog 144 #[.slice (some ⟨b, o, none⟩) m cap] w fun e w' => e = .returned (.int .i64 (numL (cut L o m) : Int)) ∧ Below w.heap.size w w' := by
  have HB : Hid (RBlk w b L) := hb
  clear hb
  go_enter Tryz.func144, Tryz.ntmps144
  go_wp2
  go_loopw [3, 8] (fun n i wr => ∃ j : Nat, j ≤ m ∧ i = .int .i64 (j : Int) ∧ n = .int .i64 (numL (cut L o j) : Int) ∧ Hid (Below w.heap.size w wr)) (fun _ i _ => m - (intOf i).toNat)
  case atStart => exact ⟨0, Nat.zero_le _, rfl, rfl, Below.refl _ _⟩
  case round =>
    obtain ⟨j, hj, rfl, rfl, HO⟩ := hrel
    by_cases hlt : j < m
    · have hB : RBlk wr b L := (HO.out.block b HB.out.lt).trans HB.out
      have hc := hB.cell (o + j) (by omega)
      clear hB
      have hlt' : (j : Int) < (m : Int) := by omega
      have hj0 : (0 : Int) ≤ (j : Int) := by omega
      go_wp2
      have hlo := numL_lt (cut L o j) 0
      rw [cut_length L o j (by omega)] at hlo
      have hlo' : numL (cut L o j) < 256 ^ 3 := Nat.lt_of_lt_of_le (by simpa [numL] using hlo) (Nat.pow_le_pow_right (by decide) (by omega))
      have hx := (L[o + j]).toNat_lt
      have hv : bits .or .i64 (wrap64 ((numL (cut L o j) : Int) * 256)) (wrap64 (L[o + j].toNat : Int)) = (numL (cut L o (j + 1)) : Int) := by
        rw [cut_snoc L o j (by omega), numL_snoc]
        generalize numL (cut L o j) = p at hlo' ⊢
        generalize (L[o + j]).toNat = q at hx ⊢
        have e1 : wrap64 ((p : Int) * 256) = ((p * 256 : Nat) : Int) := by unfold wrap64; omega
        have e2 : wrap64 (q : Int) = (q : Int) := by unfold wrap64; omega
        rw [e1, e2, i64_or_nat _ _ (by omega) (by omega), nat_join 8 (p * 256) q (by omega) (by omega)]
      rw [hv]
      exact ⟨⟨j + 1, by omega, by go_num, rfl, HO⟩, by simp [intOf]; omega⟩
    · have hlt' : (m : Int) ≤ (j : Int) := by omega
      have hjm : j = m := by omega
      subst hjm
      go_wp2
      go_ret
      exact ⟨rfl, HO.out⟩
end Go.Proofs.YtfdfamjajhmihaaGreat.L5
/-
  readKids: the numbers of a row of bytes.
-/
namespace Go.Proofs.YtfdfamjajhmihaaGreat.L5
open Go.RowKit

/-- The numbers of four bytes each, from o on. -/
def kidsL (L : List UInt8) (o j : Nat) : List Int := (List.range j).map fun i => (numL (cut L (o + 4 * i) 4) : Int)

theorem kidsL_length (L : List UInt8) (o j : Nat) : (kidsL L o j).length = j := by simp [kidsL]

theorem kidsL_snoc (L : List UInt8) (o j : Nat) : kidsL L o (j + 1) = kidsL L o j ++ [(numL (cut L (o + 4 * j) 4) : Int)] := by
  unfold kidsL
  rw [List.range_succ, List.map_append]
  rfl

/-- The row so far. -/
structure Rk (w : World) (b : Nat) (L : List UInt8) (l : List Int) (v : Value) (wr : World) : Prop where
  below : Below w.heap.size w wr
  row : wr.ownsRow w.heap.size 3 1 v l.length (l.map iv)
  blk : RBlk wr b L

theorem Rk.on {w : World} {b : Nat} {L : List UInt8} {l : List Int} {v : Value} {wr wr' : World} (h : Rk w b L l v wr) (hb : Below wr.heap.size wr wr') : Rk w b L l v wr' :=
  ⟨h.below.trans (hb.mono h.below.size), owns_below h.row hb, (hb.block b h.blk.lt).trans h.blk⟩

theorem Rk.grow {w : World} {b : Nat} {L : List UInt8} {l l' : List Int} {v v' : Value} {wr w' : World} (h : Rk w b L l v wr) (hw : RBlk w b L) (hg : wr.grownBy w' v.ownBlock) {m : Nat} (hm : m = l'.length) (ho : w'.ownsRow w.heap.size 3 1 v' m (l'.map iv)) : Rk w b L l' v' w' := by
  subst hm
  have hb : Below w.heap.size w w' := h.below.grown hg h.below.size (fun k hk => (h.row.lt k hk).1)
  exact ⟨hb, ho, (hb.block b hw.lt).trans hw⟩

set_option maxRecDepth 100000 in
set_option maxHeartbeats 400000 in
theorem readKids_walk {b o m cap k : Nat} {L : List UInt8} {w : World} (hb : RBlk w b L) (hk : m = 4 * k) (hkk : k ≤ 10000) (hcap : m ≤ cap) (hl : o + m ≤ L.length) (hc : cap ≤ 9223372036854775807) :
    Calls Tryz.prog 145 #[.slice (some ⟨b, o, none⟩) m cap] w fun e w' => ∃ v, e = .returned v ∧ w'.ownsRow w.heap.size 3 1 v k ((kidsL L o k).map iv) ∧ Below w.heap.size w w' := by
  have HB : Hid (RBlk w b L) := hb
  clear hb
  go_enter Tryz.func145, Tryz.ntmps145
  have hdiv : (m : Int) / 4 = (k : Int) := by omega
  have HK : Hid (m = 4 * k) := hk
  clear hk
  go_wp2
  go_loopw [3, 8] (fun v i wr => ∃ j : Nat, j ≤ k ∧ i = .int .i64 (j : Int) ∧ Hid (Rk w b L (kidsL L o j) v wr)) (fun _ i _ => k - (intOf i).toNat)
  case atStart => exact ⟨0, Nat.zero_le _, rfl, ⟨Below.refl _ _, ⟨rfl, Or.inl ⟨rfl, rfl⟩⟩, HB.out⟩⟩
  case round =>
    obtain ⟨j, hj, rfl, HO⟩ := hrel
    by_cases hlt : j < k
    · have hlt' : (j : Int) < (k : Int) := by omega
      have hm4 : 4 * (j + 1) ≤ m := by rw [HK.out]; omega
      have h0 : (0 : Int) ≤ 4 * (j : Int) := by omega
      have h1 : 4 * (j : Int) ≤ 4 * ((j : Int) + 1) := by omega
      have h2 : 4 * ((j : Int) + 1) ≤ (cap : Int) := by omega
      go_wp2_with fail
      have h4 : 4 * (j + 1) - 4 * j = 4 := by omega
      rw [h4]
      refine (number_walk (L := L) HO.out.blk (by omega) (by omega)).mono ?_
      rintro e w5 ⟨rfl, B5⟩
      have HO5 : Hid (Rk w b L (kidsL L o j) u3 w5) := HO.out.on B5
      clear HO B5
      have HO6 : Hid (Rk w b L (kidsL L o j) u3 (w5.alloc (.cells #[.int .i64 (numL (cut L (o + 4 * j) 4) : Int)] 3))) := HO5.out.on (below_alloc _ _)
      go_wp2_with (first
        | (at_builtin
           revert HO6)
        | fail)
      intro HO6
      refine append_row (z := .int .i64 0) (by_ := 8) Tryz.underlying49 (by kernel_rfl) (by decide) rfl w.heap.size HO6.out.below.size rfl _ _ rfl u3 (kidsL L o j).length ((kidsL L o j).map iv) ([(numL (cut L (o + 4 * j) 4) : Int)].map iv) rfl HO6.out.row (by rw [kidsL_length]; omega) 1 (by omega) ⟨w5.heap.size, 0, none⟩ 1 rfl rfl (one_int w5 _ _) (one_ivs _) ?_
      intro v' W' hown hg _
      have HO7 : Hid (Rk w b L (kidsL L o (j + 1)) v' W') := HO6.out.grow HB.out hg (m := (kidsL L o j).length + 1) (by rw [kidsL_length, kidsL_length]) (by rw [kidsL_snoc, List.map_append]; exact hown)
      clear hown hg HO6 HO5
      go_wp2
      exact ⟨⟨j + 1, by omega, by go_num, HO7⟩, by simp [intOf]; omega⟩
    · have hlt' : (k : Int) ≤ (j : Int) := by omega
      have hjm : j = k := by omega
      subst hjm
      go_wp2
      go_ret
      exact ⟨_, rfl, by have := HO.out.row; rwa [kidsL_length] at this, HO.out.below⟩
end Go.Proofs.YtfdfamjajhmihaaGreat.L5
/-
  readRecs: the entries of a row of slots.
-/
namespace Go.Proofs.YtfdfamjajhmihaaGreat.L5
open Go.RowKit

/-- Where the entry of the slot i begins, how long it is. -/
def begL (L : List UInt8) (o i : Nat) : Nat := numL (cut L (o + 4 * i) 2)
def lenL (L : List UInt8) (o i : Nat) : Nat := numL (cut L (o + 4 * i + 2) 2)
def recL (L : List UInt8) (o i : Nat) : ByteArray := ⟨(cut L (begL L o i) (lenL L o i)).toArray⟩
def recsL (L : List UInt8) (o j : Nat) : List ByteArray := (List.range j).map (recL L o)
def inL (L : List UInt8) (o j : Nat) : Prop := ∀ i, i < j → begL L o i + lenL L o i ≤ L.length

theorem recsL_length (L : List UInt8) (o j : Nat) : (recsL L o j).length = j := by simp [recsL]

theorem recsL_snoc (L : List UInt8) (o j : Nat) : recsL L o (j + 1) = recsL L o j ++ [recL L o j] := by
  unfold recsL
  rw [List.range_succ, List.map_append]
  rfl

theorem num2_lt (L : List UInt8) (o : Nat) : numL (cut L o 2) < 65536 := by
  have h := numL_lt (cut L o 2) 0
  have hl : (cut L o 2).length ≤ 2 := by unfold cut; simp; omega
  refine Nat.lt_of_lt_of_le (show numL (cut L o 2) < 1 * 256 ^ (cut L o 2).length by simpa [numL] using h) ?_
  rw [Nat.one_mul]
  exact Nat.pow_le_pow_right (by decide) hl

/-- The row so far. -/
structure Rr (w : World) (b : Nat) (L : List UInt8) (l : List ByteArray) (v : Value) (wr : World) : Prop where
  below : Below w.heap.size w wr
  row : wr.ownsRow w.heap.size 9 1 v l.length (svs l)
  blk : RBlk wr b L

theorem Rr.on {w : World} {b : Nat} {L : List UInt8} {l : List ByteArray} {v : Value} {wr wr' : World} (h : Rr w b L l v wr) (hb : Below wr.heap.size wr wr') : Rr w b L l v wr' :=
  ⟨h.below.trans (hb.mono h.below.size), owns_below h.row hb, (hb.block b h.blk.lt).trans h.blk⟩

theorem Rr.grow {w : World} {b : Nat} {L : List UInt8} {l l' : List ByteArray} {v v' : Value} {wr w' : World} (h : Rr w b L l v wr) (hw : RBlk w b L) (hg : wr.grownBy w' v.ownBlock) {m : Nat} (hm : m = l'.length) (ho : w'.ownsRow w.heap.size 9 1 v' m (svs l')) : Rr w b L l' v' w' := by
  subst hm
  have hb : Below w.heap.size w w' := h.below.grown hg h.below.size (fun k hk => (h.row.lt k hk).1)
  exact ⟨hb, ho, (hb.block b hw.lt).trans hw⟩

theorem one_str (W : World) (x : ByteArray) (t : TypeId) : ∀ i u, (svs [x])[i]? = some u → (W.alloc (.cells #[.string x] t)).cell? ((⟨W.heap.size, 0, none⟩ : Addr).add i) = some u := by
  intro i u h
  have hi : i = 0 := by
    have := (List.getElem?_eq_some_iff.1 h).1
    simpa [svs] using this
  subst hi
  simp [svs] at h
  subst h
  simp [go_sem]

set_option maxRecDepth 100000 in
set_option maxHeartbeats 400000 in
theorem readRecs_walk {b o m cap capb k lb : Nat} {L : List UInt8} {w : World} (hb : RBlk w b L) (hlb : lb = L.length) (hk : m = 4 * k) (hkk : k ≤ 10000) (hcap : m ≤ cap) (hl : o + m ≤ lb) (hc : cap ≤ 9223372036854775807) (hcb : lb ≤ capb) (hcb2 : capb ≤ 9223372036854775807) :
    Calls Tryz.prog 146 #[.slice (some ⟨b, 0, none⟩) lb capb, .slice (some ⟨b, o, none⟩) m cap] w fun e w' => Below w.heap.size w w' ∧ ((inL L o k ∧ ∃ v, e = .returned (.tuple #[v, .bool true]) ∧ w'.ownsRow w.heap.size 9 1 v k (svs (recsL L o k))) ∨ (¬ inL L o k ∧ e = .returned (.tuple #[.slice none 0 0, .bool false]))) := by
  have HB : Hid (RBlk w b L) := hb
  clear hb
  go_enter Tryz.func146, Tryz.ntmps146
  have hdiv : (m : Int) / 4 = (k : Int) := by omega
  have HK : Hid (m = 4 * k) := hk
  have HL : Hid (lb = L.length) := hlb
  clear hk hlb
  go_wp2
  go_loopw [6, 14] (fun v i wr => ∃ j : Nat, j ≤ k ∧ i = .int .i64 (j : Int) ∧ Hid (inL L o j) ∧ Hid (Rr w b L (recsL L o j) v wr)) (fun _ i _ => k - (intOf i).toNat)
  case atStart => exact ⟨0, Nat.zero_le _, rfl, (fun i hi => absurd hi (Nat.not_lt_zero _)), ⟨Below.refl _ _, ⟨rfl, Or.inl ⟨rfl, rfl⟩⟩, HB.out⟩⟩
  case round =>
    obtain ⟨j, hj, rfl, HI, HO⟩ := hrel
    by_cases hlt : j < k
    · have hlt' : (j : Int) < (k : Int) := by omega
      have hm4 : 4 * (j + 1) ≤ m := by rw [HK.out]; omega
      have h0 : (0 : Int) ≤ 4 * (j : Int) := by omega
      have h1 : 4 * (j : Int) ≤ 4 * ((j : Int) + 1) := by omega
      have h2 : 4 * ((j : Int) + 1) ≤ (cap : Int) := by omega
      have h4 : 4 * (j + 1) - 4 * j = 4 := by omega
      have h5 : (2 : Int) ≤ ((cap - 4 * j : Nat) : Int) := by omega
      have h6 : 2 ≤ cap - 4 * j := by omega
      go_wp2_with fail
      refine (number_walk (L := L) HO.out.blk (by omega) (by have := HL.out; omega)).mono ?_
      rintro e w5 ⟨rfl, B5⟩
      have HO5 : Hid (Rr w b L (recsL L o j) u6 w5) := HO.out.on B5
      clear HO B5
      rw [h4]
      have hp5 := num2_lt L (o + 4 * j)
      have HP : Hid (begL L o j = numL (cut L (o + 4 * j) 2)) := rfl
      generalize numL (cut L (o + 4 * j) 2) = p at hp5 HP ⊢
      go_wp2_with fail
      refine (number_walk (L := L) (o := o + 4 * j + 2) HO5.out.blk (by omega) (by have := HL.out; omega)).mono ?_
      rintro e w6 ⟨rfl, B6⟩
      have HO6 : Hid (Rr w b L (recsL L o j) u6 w6) := HO5.out.on B6
      clear HO5 B6
      have hq6 := num2_lt L (o + 4 * j + 2)
      have HQ : Hid (lenL L o j = numL (cut L (o + 4 * j + 2) 2)) := rfl
      generalize numL (cut L (o + 4 * j + 2) 2) = q at hq6 HQ ⊢
      by_cases hpq : p + q ≤ lb
      · have hpq' : (p : Int) + (q : Int) ≤ (lb : Int) := by omega
        have hpq2 : (p : Int) + (q : Int) ≤ (capb : Int) := by omega
        have hp0 : (p : Int) ≤ (p : Int) + (q : Int) := by omega
        have hcv : (convert 102 9 (.slice (some ⟨b, p, none⟩) q (capb - p))).run Tryz.prog w6 = .ok (.string ⟨(cut L p q).toArray⟩) w6 := conv_rblk HO6.out.blk p q (capb - p) (by have := HL.out; omega)
        have HS : Hid (recL L o j = ⟨(cut L p q).toArray⟩) := by show recL L o j = _; unfold recL; rw [HP.out, HQ.out]
        have HIj : Hid (inL L o (j + 1)) := fun i hi => by
          by_cases e : i = j
          · subst e; rw [HP.out, HQ.out, ← HL.out]; exact hpq
          · exact HI.out i (by omega)
        have hcv0 : q = 0 → (convert 102 9 (.slice (some ⟨b, 0, none⟩) 0 0)).run Tryz.prog w6 = .ok (.string ⟨(cut L p q).toArray⟩) w6 := fun h => by
          have := conv_rblk HO6.out.blk 0 0 0 (by omega)
          rw [this, h]
          simp [cut]
        generalize (⟨(cut L p q).toArray⟩ : ByteArray) = S at hcv hcv0 HS
        have HO7 : Hid (Rr w b L (recsL L o j) u6 (w6.alloc (.cells #[.string S] 9))) := HO6.out.on (below_alloc _ _)
        by_cases hcp : capb = p
        · have hq0 : q = 0 := by omega
          have hcv1 := hcv0 hq0
          clear hcv0 hcv
          subst hcp
          subst hq0
          go_wp2_with (first
            | (at_builtin
               revert HO7)
            | fail)
          intro HO7
          refine append_row (z := .string ⟨#[]⟩) (by_ := 16) Tryz.underlying33 (by kernel_rfl) (by decide) rfl w.heap.size HO7.out.below.size rfl _ _ rfl u6 (recsL L o j).length (svs (recsL L o j)) (svs [S]) rfl HO7.out.row (by rw [recsL_length]; omega) 1 (by omega) ⟨w6.heap.size, 0, none⟩ 1 rfl rfl (one_str w6 _ _) (one_svs _) ?_
          intro v' W' hown hg _
          have HO8 : Hid (Rr w b L (recsL L o (j + 1)) v' W') := HO7.out.grow HB.out hg (m := (recsL L o j).length + 1) (by rw [recsL_length, recsL_length]) (by rw [recsL_snoc, HS.out]; unfold svs at hown ⊢; rw [List.map_append]; exact hown)
          clear hown hg HO7 HO6
          go_wp2
          exact ⟨⟨j + 1, by omega, by go_num, HIj, HO8⟩, by simp [intOf]; omega⟩
        · clear hcv0
          go_wp2_with (first
            | (at_builtin
               revert HO7)
            | fail)
          intro HO7
          refine append_row (z := .string ⟨#[]⟩) (by_ := 16) Tryz.underlying33 (by kernel_rfl) (by decide) rfl w.heap.size HO7.out.below.size rfl _ _ rfl u6 (recsL L o j).length (svs (recsL L o j)) (svs [S]) rfl HO7.out.row (by rw [recsL_length]; omega) 1 (by omega) ⟨w6.heap.size, 0, none⟩ 1 rfl rfl (one_str w6 _ _) (one_svs _) ?_
          intro v' W' hown hg _
          have HO8 : Hid (Rr w b L (recsL L o (j + 1)) v' W') := HO7.out.grow HB.out hg (m := (recsL L o j).length + 1) (by rw [recsL_length, recsL_length]) (by rw [recsL_snoc, HS.out]; unfold svs at hown ⊢; rw [List.map_append]; exact hown)
          clear hown hg HO7 HO6
          go_wp2
          exact ⟨⟨j + 1, by omega, by go_num, HIj, HO8⟩, by simp [intOf]; omega⟩
      · have hpq' : (lb : Int) < (p : Int) + (q : Int) := by omega
        have HN : Hid (¬ inL L o k) := fun h => hpq (by have := h j hlt; rw [HP.out, HQ.out, ← HL.out] at this; exact this)
        go_wp2
        go_ret2
        exact ⟨HO6.out.below, Or.inr ⟨HN.out, rfl⟩⟩
    · have hlt' : (k : Int) ≤ (j : Int) := by omega
      have hjm : j = k := by omega
      subst hjm
      go_wp2
      go_ret2
      exact ⟨HO.out.below, Or.inl ⟨HI.out, _, rfl, by have := HO.out.row; rwa [recsL_length] at this⟩⟩
end Go.Proofs.YtfdfamjajhmihaaGreat.L5
/-
  read: a node out of a page's bytes, unchecked.
-/
namespace Go.Proofs.YtfdfamjajhmihaaGreat.L5
open Go.RowKit

theorem hidd {p : Prop} (h : p) : Hid p := h

/-- What a page's bytes say, unchecked. -/
def cntL (L : List UInt8) : Nat := numL (cut L 1 2)
def leafB (L : List UInt8) : Bool := byteAt L 0 == 1
def kidN (L : List UInt8) : Nat := if leafB L then 0 else cntL L + 1
def slotAt (L : List UInt8) : Nat := 3 + 4 * kidN L
def rawN (L : List UInt8) : No := ⟨leafB L, recsL L (slotAt L) (cntL L), kidsL L 3 (kidN L)⟩
def rawOk (L : List UInt8) : Prop := slotAt L + 4 * cntL L ≤ 1024 ∧ inL L (slotAt L) (cntL L)

/-- The block of the answer, the page. -/
structure Rw (w : World) (b : Nat) (L : List UInt8) (wr : World) : Prop where
  below : Below w.heap.size w wr
  z : wr.heap[w.heap.size]? = some zNode
  blk : RBlk wr b L

theorem Rw.on {w : World} {b : Nat} {L : List UInt8} {wr wr' : World} (h : Rw w b L wr) (hb : Below wr.heap.size wr wr') : Rw w b L wr' :=
  ⟨h.below.trans (hb.mono h.below.size), (hb.block _ (Array.getElem?_eq_some_iff.1 h.z).1).trans h.z, (hb.block b h.blk.lt).trans h.blk⟩

theorem Rw.new {w : World} {b : Nat} {L : List UInt8} (h : RBlk w b L) : Rw w b L (w.alloc zNode) :=
  ⟨below_alloc _ _, heap_alloc_last _ _, ((below_alloc w zNode).block b h.lt).trans h⟩

def ROut (w : World) (x y z : Value) (W : World) : Prop :=
  W.cell? ⟨w.heap.size, 0, none⟩ = some x ∧ W.cell? ⟨w.heap.size, 1, none⟩ = some y ∧ W.cell? ⟨w.heap.size, 2, none⟩ = some z ∧ Below w.heap.size w W

theorem read_fail {w W : World} {b : Nat} {L : List UInt8} (h : Rw w b L W) (x y z : Value) (ob : Obj) : ROut w x y z ((put3 W w.heap.size x y z).alloc ob) := by
  have hb : Below w.heap.size w (put3 W w.heap.size x y z) := put3_below h.below (Nat.le_refl _) x y z
  have hz := put3_block h.z x y z
  have ha := below_alloc (put3 W w.heap.size x y z) ob
  have hz2 := (ha.block _ (Array.getElem?_eq_some_iff.1 hz).1).trans hz
  obtain ⟨c0, c1, c2⟩ := node_cells hz2
  exact ⟨c0, c1, c2, hb.trans (ha.mono hb.size)⟩

/-- The node that is filled. -/
structure Rx (w : World) (b : Nat) (L : List UInt8) (p : Nat) (x y z : Value) (wr : World) : Prop where
  rw : Rw w b L wr
  n : wr.heap[p]? = some (.cells #[x, y, z] 90 (0, 0))

theorem Rx.on {w : World} {b : Nat} {L : List UInt8} {p : Nat} {x y z : Value} {wr wr' : World} (h : Rx w b L p x y z wr) (hb : Below wr.heap.size wr wr') : Rx w b L p x y z wr' :=
  ⟨h.rw.on hb, (hb.block _ (Array.getElem?_eq_some_iff.1 h.n).1).trans h.n⟩

theorem Rw.node {w : World} {b : Nat} {L : List UInt8} {wr : World} (h : Rw w b L wr) (x y z : Value) : Rx w b L wr.heap.size x y z (wr.alloc (.cells #[x, y, z] 90)) :=
  ⟨h.on (below_alloc _ _), heap_alloc_last _ _⟩

theorem Rx.set {w : World} {b : Nat} {L : List UInt8} {p : Nat} {x y z : Value} {wr : World} (h : Rx w b L p x y z wr) (hp : w.heap.size < p) (hb : b ≠ p) (v : Value) (i : Nat) {cs : Array Value} (hcs : #[x, y, z].setIfInBounds i v = cs) :
    Rw w b L (wr.setCell ⟨p, i, none⟩ v) ∧ (wr.setCell ⟨p, i, none⟩ v).heap[p]? = some (.cells cs 90 (0, 0)) := by
  refine ⟨⟨h.rw.below.setCell (by show w.heap.size ≤ p; omega) v, ?_, ?_⟩, ?_⟩
  · rw [heap_setCell_other _ _ _ _ (by show w.heap.size ≠ p; omega)]; exact h.rw.z
  · unfold RBlk; rw [heap_setCell_other _ _ _ _ hb]; exact h.rw.blk
  · subst hcs; exact heap_setCell_same wr p i _ _ v h.n

/-- The answer, and its rows. -/
def RRes (w : World) (x r k : Value) (A : Nat) (l : List Value) (B : Nat) (ks : List Value) (W : World) : Prop :=
  ROut w x r k W ∧ W.ownsRow w.heap.size 9 1 r A l ∧ W.ownsRow w.heap.size 3 1 k B ks

theorem read_end {w W : World} {b : Nat} {L : List UInt8} {p : Nat} {x y z : Value} (h : Rx w b L p x y z W) (hp : w.heap.size < p) (hb : b ≠ p) {r : Value} {A B : Nat} {l ks : List Value} (h1 : W.ownsRow w.heap.size 9 1 r A l) (h2 : W.ownsRow w.heap.size 3 1 z B ks) : RRes w x r z A l B ks (put3 (W.setCell ⟨p, 1, none⟩ r) w.heap.size x r z) := by
  obtain ⟨s1, s2⟩ := h.set hp hb r 1 rfl
  have o1 := owns_node h1 (by decide) h.n 1 r
  have o2 := owns_node h2 (by decide) h.n 1 r
  obtain ⟨c0, c1, c2⟩ := node_cells (put3_block s1.z x r z)
  exact ⟨⟨c0, c1, c2, put3_below s1.below (Nat.le_refl _) x r z⟩, owns_put3 o1 (by decide) s1.z x r z, owns_put3 o2 (by decide) s1.z x r z⟩

set_option maxRecDepth 100000 in
set_option maxHeartbeats 1200000 in
theorem read_walk {b : Nat} {L : List UInt8} {w : World} (hb : RBlk w b L) (hl : L.length = 1024) :
    Calls Tryz.prog 126 #[.slice (some ⟨b, 0, none⟩) 1024 1024] w fun e w' => Below w.heap.size w w' ∧ ((rawOk L ∧ ∃ r k, e = .returned (.tuple #[.agg #[.bool (leafB L), r, k], .bool true]) ∧ w'.ownsRow w.heap.size 9 1 r (cntL L) (svs (rawN L).recs) ∧ w'.ownsRow w.heap.size 3 1 k (kidN L) (ivs (rawN L).kids)) ∨ (¬ rawOk L ∧ ∃ lf x m q, e = .returned (.tuple #[.agg #[.bool lf, .slice none 0 0, .slice x m q], .bool false]))) := by
  have HB : Hid (RBlk w b L) := hb
  have HL : Hid (L.length = 1024) := hl
  clear hb hl
  go_enter Tryz.func126, Tryz.ntmps126
  go_wp2_with fail
  have H0 : Hid (Rw w b L (w.alloc (.cells #[.bool false, .slice none 0 0, .slice none 0 0] 90))) := Rw.new HB.out
  refine (number_walk (L := L) H0.out.blk (by omega) (by have := HL.out; omega)).mono ?_
  rintro e w1 ⟨rfl, B1⟩
  have H1 : Hid (Rw w b L w1) := H0.out.on B1
  clear H0 B1
  have hc0 := H1.out.blk.cell 0 (by have := HL.out; omega)
  have z0 := (node_cells H1.out.z).1
  have z1 := (node_cells H1.out.z).2.1
  have z2 := (node_cells H1.out.z).2.2
  have zf : ∀ i, w1.frozen? ⟨w.heap.size, i, none⟩ = false := fun i => frozen_of_row _ _ _ _ _ H1.out.z
  have xl : w.heap.size < w1.heap.size := (Array.getElem?_eq_some_iff.1 H1.out.z).1
  have hcl := num2_lt L 1
  have HC : Hid (cntL L = numL (cut L 1 2)) := rfl
  generalize numL (cut L 1 2) = cn at hcl HC ⊢
  have hby : byteAt L 0 = (L[0]'(by have := HL.out; omega)).toNat := by unfold byteAt; rw [List.getD_eq_getElem?_getD, List.getElem?_eq_getElem (by have := HL.out; omega)]; rfl
  cases hlf : leafB L
  · have h01 : ¬ ((L[0]'(by have := HL.out; omega)).toNat : Int) = 1 := by
      have : ¬ byteAt L 0 = 1 := by simpa [leafB] using hlf
      rw [hby] at this
      omega
    clear hby
    generalize ((L[0]'(by have := HL.out; omega)).toNat : Int) = y at hc0 h01
    have h02 : (y == 1) = false := by simpa using h01
    by_cases hend : 3 + 4 * (cn + 1) + 4 * cn ≤ 1024
    · have j1 : (3 : Int) ≤ 3 + 4 * ((cn : Int) + 1) := by omega
      have j2 : 3 + 4 * ((cn : Int) + 1) ≤ 1024 := by omega
      have hend' : 3 + 4 * ((cn : Int) + 1) + 4 * (cn : Int) ≤ 1024 := by omega
      go_wp2_with fail
      have H2 : Hid (Rx w b L w1.heap.size (.bool false) (.slice none 0 0) (.slice none 0 0) (w1.alloc (.cells #[.bool false, .slice none 0 0, .slice none 0 0] 90))) := H1.out.node _ _ _
      refine (readKids_walk (L := L) (k := cn + 1) H2.out.rw.blk (by omega) (by omega) (by omega) (by have := HL.out; omega) (by omega)).mono ?_
      rintro e w2 ⟨v2, rfl, O2, B2⟩
      obtain ⟨x2, q2, rfl, _, _, _⟩ := owns_rd O2
      have H3 : Hid (Rx w b L w1.heap.size (.bool false) (.slice none 0 0) (.slice none 0 0) w2) := H2.out.on B2
      have HO2 : Hid (w2.ownsRow w.heap.size 3 1 (.slice x2 (cn + 1) q2) (cn + 1) ((kidsL L 3 (cn + 1)).map iv)) := owns_base O2 H2.out.rw.below.size
      clear z0 z1 z2 zf H2 O2 B2 hc0
      have y0 := (node_cells H3.out.n).1
      have y1 := (node_cells H3.out.n).2.1
      have y2 := (node_cells H3.out.n).2.2
      have yf : ∀ i, w2.frozen? ⟨w1.heap.size, i, none⟩ = false := fun i => frozen_of_row _ _ _ _ _ H3.out.n
      have yl : w1.heap.size < w2.heap.size := (Array.getElem?_eq_some_iff.1 H3.out.n).1
      have hbn : b ≠ w1.heap.size := fun e => by have := HB.out.lt; omega
      have i1 : 3 + 4 * ((cn : Int) + 1) ≤ 3 + 4 * ((cn : Int) + 1) + 4 * (cn : Int) := by omega
      have i2 : 3 + 4 * ((cn : Int) + 1) ≤ 1024 := by omega
      have i3 : (3 : Int) ≤ 3 + 4 * ((cn : Int) + 1) := by omega
      go_wp2_with fail
      have HS := hidd (H3.out.set xl hbn (.slice x2 (cn + 1) q2) 2 rfl)
      have HO3 := hidd (owns_node HO2.out (by decide) H3.out.n 2 (.slice x2 (cn + 1) q2))
      have H4 : Hid (Rx w b L w1.heap.size (.bool false) (.slice none 0 0) (.slice x2 (cn + 1) q2) (w2.setCell ⟨w1.heap.size, 2, none⟩ (.slice x2 (cn + 1) q2))) := ⟨HS.out.1, HS.out.2⟩
      clear HS H3 HO2 y0 y1 y2 yf yl
      generalize w2.setCell ⟨w1.heap.size, 2, none⟩ (.slice x2 (cn + 1) q2) = w3 at H4 HO3 ⊢
      refine (readRecs_walk (L := L) (k := cn) H4.out.rw.blk HL.out.symm rfl (by omega) (by omega) (by omega) (by omega) (by omega) (by omega)).mono ?_
      rintro e w4 ⟨B4, ⟨hin, v4, rfl, O4⟩ | ⟨hin, rfl⟩⟩
      · obtain ⟨x4, q4, rfl, _, _, _⟩ := owns_rd O4
        have H5 := hidd (H4.out.on B4)
        have HO4 := hidd (owns_base O4 H4.out.rw.below.size)
        have HO5 := hidd (owns_below HO3.out B4)
        clear O4 B4 HO3 H4
        have HI : Hid _ := hin
        clear hin
        have y0 := (node_cells H5.out.n).1
        have y1 := (node_cells H5.out.n).2.1
        have y2 := (node_cells H5.out.n).2.2
        have yf : ∀ i, w4.frozen? ⟨w1.heap.size, i, none⟩ = false := fun i => frozen_of_row _ _ _ _ _ H5.out.n
        have yl : w1.heap.size < w4.heap.size := (Array.getElem?_eq_some_iff.1 H5.out.n).1
        have z0 := (node_cells H5.out.rw.z).1
        have z1 := (node_cells H5.out.rw.z).2.1
        have z2 := (node_cells H5.out.rw.z).2.2
        have zf : ∀ i, w4.frozen? ⟨w.heap.size, i, none⟩ = false := fun i => frozen_of_row _ _ _ _ _ H5.out.rw.z
        have e1 := set_far (p := w1.heap.size) (q := w.heap.size) (by omega)
        have e2 := set_far (p := w.heap.size) (q := w1.heap.size) (by omega)
        go_wp2_with fail
        refine to_letter (read_end H5.out xl hbn HO4.out HO5.out) ?_
        clear y0 y1 y2 yf yl z0 z1 z2 zf e1 e2 H5 HO4 HO5
        intro Wf hF
        obtain ⟨⟨g0, g1, g2, hB⟩, r1, r2⟩ := hF
        refine bodyPost_ret (v := .tuple #[.agg #[.bool false, .slice x4 cn q4, .slice x2 (cn + 1) q2], .bool true]) ?_ rfl ?_
        · simp [results, Tryz.results126, go_sem, g0, g1, g2]
        · refine ⟨hB, Or.inl ⟨?_, _, _, by rw [hlf], ?_, ?_⟩⟩
          · unfold rawOk
            rw [show slotAt L = 3 + 4 * (cn + 1) by unfold slotAt kidN; rw [hlf, HC.out]; rfl, HC.out]
            exact ⟨hend, HI.out⟩
          · unfold rawN
            rw [show slotAt L = 3 + 4 * (cn + 1) by unfold slotAt kidN; rw [hlf, HC.out]; rfl, HC.out]
            exact r1
          · unfold rawN
            rw [show kidN L = cn + 1 by unfold kidN; rw [hlf, HC.out]; rfl]
            exact r2
      · have H5 := hidd (H4.out.on B4)
        have HO5 := hidd (owns_below HO3.out B4)
        clear B4 HO3 H4
        have HN : Hid (¬ rawOk L) := fun h => hin (by
          have := h.2
          rw [show slotAt L = 3 + 4 * (cn + 1) by unfold slotAt kidN; rw [hlf, HC.out]; rfl, HC.out] at this
          exact this)
        clear hin
        have y0 := (node_cells H5.out.n).1
        have y1 := (node_cells H5.out.n).2.1
        have y2 := (node_cells H5.out.n).2.2
        have yf : ∀ i, w4.frozen? ⟨w1.heap.size, i, none⟩ = false := fun i => frozen_of_row _ _ _ _ _ H5.out.n
        have yl : w1.heap.size < w4.heap.size := (Array.getElem?_eq_some_iff.1 H5.out.n).1
        have z0 := (node_cells H5.out.rw.z).1
        have z1 := (node_cells H5.out.rw.z).2.1
        have z2 := (node_cells H5.out.rw.z).2.2
        have zf : ∀ i, w4.frozen? ⟨w.heap.size, i, none⟩ = false := fun i => frozen_of_row _ _ _ _ _ H5.out.rw.z
        have e1 := set_far (p := w1.heap.size) (q := w.heap.size) (by omega)
        have e2 := set_far (p := w.heap.size) (q := w1.heap.size) (by omega)
        go_wp2_with fail
        refine to_letter (read_end (r := .slice none 0 0) H5.out xl hbn (World.ownsRow_nil _ _ _ _) HO5.out) ?_
        clear y0 y1 y2 yf yl z0 z1 z2 zf e1 e2 H5 HO5
        intro Wf hF
        obtain ⟨⟨g0, g1, g2, hB⟩, _, _⟩ := hF
        refine bodyPost_ret (v := .tuple #[.agg #[.bool false, .slice none 0 0, .slice x2 (cn + 1) q2], .bool false]) ?_ rfl ?_
        · simp [results, Tryz.results126, go_sem, g0, g1, g2]
        · exact ⟨hB, Or.inr ⟨HN.out, _, _, _, _, rfl⟩⟩
    · have hend' : 1024 < 3 + 4 * ((cn : Int) + 1) + 4 * (cn : Int) := by omega
      have HN : Hid (¬ rawOk L) := fun h => by
        have := h.1
        unfold slotAt kidN at this
        rw [hlf, HC.out] at this
        simp at this
        omega
      go_wp2_with fail
      refine to_letter (read_fail H1.out (.bool false) (.slice none 0 0) (.slice none 0 0) _) ?_
      clear z0 z1 z2 zf H1 xl hc0
      intro Wf hF
      obtain ⟨g0, g1, g2, hF⟩ := hF
      refine bodyPost_ret (v := .tuple #[.agg #[.bool false, .slice none 0 0, .slice none 0 0], .bool false]) ?_ rfl ?_
      · simp [results, Tryz.results126, go_sem, g0, g1, g2]
      · exact ⟨hF, Or.inr ⟨HN.out, _, _, _, _, rfl⟩⟩
  · have h01 : (L[0]'(by have := HL.out; omega)).toNat = 1 := by rw [← hby]; simpa [leafB] using hlf
    rw [h01] at hc0
    clear h01 hby
    by_cases hend : 3 + 4 * cn ≤ 1024
    · have hend' : 3 + 4 * (cn : Int) ≤ 1024 := by omega
      go_wp2_with fail
      have H2 : Hid (Rx w b L w1.heap.size (.bool true) (.slice none 0 0) (.slice none 0 0) (w1.alloc (.cells #[.bool true, .slice none 0 0, .slice none 0 0] 90))) := H1.out.node _ _ _
      refine (readKids_walk (L := L) (k := 0) H2.out.rw.blk (by omega) (by omega) (by omega) (by have := HL.out; omega) (by omega)).mono ?_
      rintro e w2 ⟨v2, rfl, O2, B2⟩
      obtain ⟨x2, q2, rfl, _, _, _⟩ := owns_rd O2
      have H3 : Hid (Rx w b L w1.heap.size (.bool true) (.slice none 0 0) (.slice none 0 0) w2) := H2.out.on B2
      have HO2 : Hid (w2.ownsRow w.heap.size 3 1 (.slice x2 0 q2) 0 ((kidsL L 3 0).map iv)) := owns_base O2 H2.out.rw.below.size
      clear z0 z1 z2 zf H2 O2 B2 hc0
      have y0 := (node_cells H3.out.n).1
      have y1 := (node_cells H3.out.n).2.1
      have y2 := (node_cells H3.out.n).2.2
      have yf : ∀ i, w2.frozen? ⟨w1.heap.size, i, none⟩ = false := fun i => frozen_of_row _ _ _ _ _ H3.out.n
      have yl : w1.heap.size < w2.heap.size := (Array.getElem?_eq_some_iff.1 H3.out.n).1
      have hbn : b ≠ w1.heap.size := fun e => by have := HB.out.lt; omega
      have i1 : (3 : Int) ≤ 3 + 4 * (cn : Int) := by omega
      go_wp2_with fail
      have HS := hidd (H3.out.set xl hbn (.slice x2 0 q2) 2 rfl)
      have HO3 := hidd (owns_node HO2.out (by decide) H3.out.n 2 (.slice x2 0 q2))
      have H4 : Hid (Rx w b L w1.heap.size (.bool true) (.slice none 0 0) (.slice x2 0 q2) (w2.setCell ⟨w1.heap.size, 2, none⟩ (.slice x2 0 q2))) := ⟨HS.out.1, HS.out.2⟩
      clear HS H3 HO2 y0 y1 y2 yf yl
      generalize w2.setCell ⟨w1.heap.size, 2, none⟩ (.slice x2 0 q2) = w3 at H4 HO3 ⊢
      refine (readRecs_walk (L := L) (k := cn) H4.out.rw.blk HL.out.symm rfl (by omega) (by omega) (by omega) (by omega) (by omega) (by omega)).mono ?_
      rintro e w4 ⟨B4, ⟨hin, v4, rfl, O4⟩ | ⟨hin, rfl⟩⟩
      · obtain ⟨x4, q4, rfl, _, _, _⟩ := owns_rd O4
        have H5 := hidd (H4.out.on B4)
        have HO4 := hidd (owns_base O4 H4.out.rw.below.size)
        have HO5 := hidd (owns_below HO3.out B4)
        clear O4 B4 HO3 H4
        have HI : Hid _ := hin
        clear hin
        have y0 := (node_cells H5.out.n).1
        have y1 := (node_cells H5.out.n).2.1
        have y2 := (node_cells H5.out.n).2.2
        have yf : ∀ i, w4.frozen? ⟨w1.heap.size, i, none⟩ = false := fun i => frozen_of_row _ _ _ _ _ H5.out.n
        have yl : w1.heap.size < w4.heap.size := (Array.getElem?_eq_some_iff.1 H5.out.n).1
        have z0 := (node_cells H5.out.rw.z).1
        have z1 := (node_cells H5.out.rw.z).2.1
        have z2 := (node_cells H5.out.rw.z).2.2
        have zf : ∀ i, w4.frozen? ⟨w.heap.size, i, none⟩ = false := fun i => frozen_of_row _ _ _ _ _ H5.out.rw.z
        have e1 := set_far (p := w1.heap.size) (q := w.heap.size) (by omega)
        have e2 := set_far (p := w.heap.size) (q := w1.heap.size) (by omega)
        go_wp2_with fail
        refine to_letter (read_end H5.out xl hbn HO4.out HO5.out) ?_
        clear y0 y1 y2 yf yl z0 z1 z2 zf e1 e2 H5 HO4 HO5
        intro Wf hF
        obtain ⟨⟨g0, g1, g2, hB⟩, r1, r2⟩ := hF
        refine bodyPost_ret (v := .tuple #[.agg #[.bool true, .slice x4 cn q4, .slice x2 0 q2], .bool true]) ?_ rfl ?_
        · simp [results, Tryz.results126, go_sem, g0, g1, g2]
        · refine ⟨hB, Or.inl ⟨?_, _, _, by rw [hlf], ?_, ?_⟩⟩
          · unfold rawOk
            rw [show slotAt L = 3 by unfold slotAt kidN; rw [hlf]; rfl, HC.out]
            exact ⟨hend, HI.out⟩
          · unfold rawN
            rw [show slotAt L = 3 by unfold slotAt kidN; rw [hlf]; rfl, HC.out]
            exact r1
          · unfold rawN
            rw [show kidN L = 0 by unfold kidN; rw [hlf]; rfl]
            exact r2
      · have H5 := hidd (H4.out.on B4)
        have HO5 := hidd (owns_below HO3.out B4)
        clear B4 HO3 H4
        have HN : Hid (¬ rawOk L) := fun h => hin (by
          have := h.2
          rw [show slotAt L = 3 by unfold slotAt kidN; rw [hlf]; rfl, HC.out] at this
          exact this)
        clear hin
        have y0 := (node_cells H5.out.n).1
        have y1 := (node_cells H5.out.n).2.1
        have y2 := (node_cells H5.out.n).2.2
        have yf : ∀ i, w4.frozen? ⟨w1.heap.size, i, none⟩ = false := fun i => frozen_of_row _ _ _ _ _ H5.out.n
        have yl : w1.heap.size < w4.heap.size := (Array.getElem?_eq_some_iff.1 H5.out.n).1
        have z0 := (node_cells H5.out.rw.z).1
        have z1 := (node_cells H5.out.rw.z).2.1
        have z2 := (node_cells H5.out.rw.z).2.2
        have zf : ∀ i, w4.frozen? ⟨w.heap.size, i, none⟩ = false := fun i => frozen_of_row _ _ _ _ _ H5.out.rw.z
        have e1 := set_far (p := w1.heap.size) (q := w.heap.size) (by omega)
        have e2 := set_far (p := w.heap.size) (q := w1.heap.size) (by omega)
        go_wp2_with fail
        refine to_letter (read_end (r := .slice none 0 0) H5.out xl hbn (World.ownsRow_nil _ _ _ _) HO5.out) ?_
        clear y0 y1 y2 yf yl z0 z1 z2 zf e1 e2 H5 HO5
        intro Wf hF
        obtain ⟨⟨g0, g1, g2, hB⟩, _, _⟩ := hF
        refine bodyPost_ret (v := .tuple #[.agg #[.bool true, .slice none 0 0, .slice x2 0 q2], .bool false]) ?_ rfl ?_
        · simp [results, Tryz.results126, go_sem, g0, g1, g2]
        · exact ⟨hB, Or.inr ⟨HN.out, _, _, _, _, rfl⟩⟩
    · have hend' : 1024 < 3 + 4 * (cn : Int) := by omega
      have HN : Hid (¬ rawOk L) := fun h => by
        have := h.1
        unfold slotAt kidN at this
        rw [hlf, HC.out] at this
        simp at this
        omega
      go_wp2_with fail
      refine to_letter (read_fail H1.out (.bool false) (.slice none 0 0) (.slice none 0 0) _) ?_
      clear z0 z1 z2 zf H1 xl hc0
      intro Wf hF
      obtain ⟨g0, g1, g2, hF⟩ := hF
      refine bodyPost_ret (v := .tuple #[.agg #[.bool false, .slice none 0 0, .slice none 0 0], .bool false]) ?_ rfl ?_
      · simp [results, Tryz.results126, go_sem, g0, g1, g2]
      · exact ⟨hF, Or.inr ⟨HN.out, _, _, _, _, rfl⟩⟩
end Go.Proofs.YtfdfamjajhmihaaGreat.L5
