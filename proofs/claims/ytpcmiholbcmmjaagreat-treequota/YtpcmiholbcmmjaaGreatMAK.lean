import Derived.Test.YtpcmiholbcmmjaaGreatMAD
import Derived.Laws.BitsAllLaws
import Derived.Test.YtpcmiholbcmmjaaGreatMAH
import Derived.Test.YtpcmiholbcmmjaaGreatMAJ
import Derived.Below
import Derived.Laws.IdiomCopy
import Derived.Shelf.Slices.Cells
import Derived.ProofKit
import Derived.OpenShut
import Derived.ShutString
import Derived.ChangeOld
set_option maxRecDepth 100000
set_option maxHeartbeats 4000000
namespace Go.Proofs.YtpcmiholbcmmjaaGreat.L5
open Go.RowKit
theorem encode_no {n : No} {a : Option Addr} {c : Nat} {a' : Option Addr} {c' : Nat} {w : World} (hr : NR w n a c a' c') (hs : n.small) (hb : n.shaped = false) :
 Calls Tryz.prog 93 #[nodeV n a c a' c'] w fun e w' => e = .returned (.tuple #[.slice none 0 0, .int .i64 15]) /\ Below w.heap.size w w' := by
 have HB := below_alloc w (.cells #[.bool n.leaf, .slice a n.recs.length c, .slice a' n.kids.length c'] 90)
 have HR : Hid (NR (w.alloc (.cells #[.bool n.leaf, .slice a n.recs.length c, .slice a' n.kids.length c'] 90)) n a c a' c') := hr.below HB
 go_enter Tryz.func93, Tryz.ntmps93
 unfold nodeV
 go_wp2_with fail
 refine (sound_walk (n := n) (a := a) (c := c) (a' := a') (c' := c') HR.out hs).mono ?_
 rintro e w1 ⟨rfl, B1⟩
 rw [hb]
 go_wp2
 go_ret2
 exact ⟨rfl, below_on HB B1⟩
theorem encode_long {n : No} {a : Option Addr} {c : Nat} {a' : Option Addr} {c' : Nat} {w : World} (hr : NR w n a c a' c') (hs : n.small) (hb : n.shaped = true) (hl : 1024 < n.size) :
 Calls Tryz.prog 93 #[nodeV n a c a' c'] w fun e w' => e = .returned (.tuple #[.slice none 0 0, .int .i64 8]) /\ Below w.heap.size w w' := by
 have HB := below_alloc w (.cells #[.bool n.leaf, .slice a n.recs.length c, .slice a' n.kids.length c'] 90)
 have HR : Hid (NR (w.alloc (.cells #[.bool n.leaf, .slice a n.recs.length c, .slice a' n.kids.length c'] 90)) n a c a' c') := hr.below HB
 have hz : w.heap.size < (w.alloc (.cells #[.bool n.leaf, .slice a n.recs.length c, .slice a' n.kids.length c'] 90)).heap.size := by simp
 obtain ⟨b0, b1, b2⟩ := box_cells w (.bool n.leaf) (.slice a n.recs.length c) (.slice a' n.kids.length c') 90
 have hl' : (1024 : Int) < (n.size : Int) := by omega
 go_enter Tryz.func93, Tryz.ntmps93
 unfold nodeV
 go_wp2_with fail
 refine (sound_walk (n := n) (a := a) (c := c) (a' := a') (c' := c') HR.out hs).mono ?_
 rintro e w1 ⟨rfl, B1⟩
 rw [hb]
 obtain ⟨hc1, _⟩ := bcell B1
 go_wp2_with fail
 refine (size_walk (n := n) (a := a) (c := c) (a' := a') (c' := c') (HR.out.below B1) hs).mono ?_
 rintro e w2 ⟨rfl, B2⟩
 go_wp2
 go_ret2
 exact ⟨rfl, below_on HB (below_on B1 B2)⟩
theorem encode_ok {n : No} {a : Option Addr} {c : Nat} {a' : Option Addr} {c' : Nat} {w : World} (hr : NR w n a c a' c') (hs : n.small) (hb : n.shaped = true) (hl : n.size <= 1024) :
 Calls Tryz.prog 93 #[nodeV n a c a' c'] w fun e w' => ∃ b, e = .returned (.tuple #[.slice (some ⟨b, 0, none⟩) 1024 1024, .int .i64 0]) /\ w.heap.size <= b /\ Blk w' b (pageL n.toNd) /\ Below w.heap.size w w' := by
 have HB := below_alloc w (.cells #[.bool n.leaf, .slice a n.recs.length c, .slice a' n.kids.length c'] 90)
 have HR : Hid (NR (w.alloc (.cells #[.bool n.leaf, .slice a n.recs.length c, .slice a' n.kids.length c'] 90)) n a c a' c') := hr.below HB
 have hz : w.heap.size < (w.alloc (.cells #[.bool n.leaf, .slice a n.recs.length c, .slice a' n.kids.length c'] 90)).heap.size := by simp
 obtain ⟨b0, b1, b2⟩ := box_cells w (.bool n.leaf) (.slice a n.recs.length c) (.slice a' n.kids.length c') 90
 have hl' : (n.size : Int) <= 1024 := by omega
 go_enter Tryz.func93, Tryz.ntmps93
 unfold nodeV
 go_wp2_with fail
 refine (sound_walk (n := n) (a := a) (c := c) (a' := a') (c' := c') HR.out hs).mono ?_
 rintro e w1 ⟨rfl, B1⟩
 rw [hb]
 obtain ⟨hc1, _⟩ := bcell B1
 go_wp2_with fail
 refine (size_walk (n := n) (a := a) (c := c) (a' := a') (c' := c') (HR.out.below B1) hs).mono ?_
 rintro e w2 ⟨rfl, B2⟩
 obtain ⟨hc2, _⟩ := bcell (below_on B1 B2)
 have HR2 : Hid (NR w2 n a c a' c') := HR.out.below (below_on B1 B2)
 have B3 := below_on HB (below_on B1 B2)
 clear hc1 B1 B2 HR
 go_wp2_with fail
 refine (written_walk (n := n) (a := a) (c := c) (a' := a') (c' := c') HR2.out hb hl).mono ?_
 rintro e w3 ⟨b, rfl, hbl, hk, B4⟩
 have hsz := B3.size
 go_wp2
 go_ret2
 exact ⟨b, rfl, by omega, hk, below_on B3 B4⟩
theorem conv_blk {W : World} {b : Nat} {L : List UInt8} (h : Blk W b L) (o m cap : Nat) (hl : o + m <= L.length) : (convert 102 9 (.slice (some ⟨b, o, none⟩) m cap)).run Tryz.prog W = .ok (.string ⟨(cut L o m).toArray⟩) W := by
 have hm : (cut L o m).length = m := by unfold cut; simp; omega
 have := run_convert_bytes_back (P := Tryz.prog) W 102 9 5 ⟨b, o, none⟩ cap (cut L o m) Tryz.underlying102 Tryz.underlying5 Tryz.underlying9 (fun j hj => by
  rw [show (⟨b, o, none⟩ : Addr).add j = ⟨b, o + j, none⟩ by unfold Addr.add; split <;> simp_all, h.cell (o + j) (by omega)]
  have e : (cut L o m)[j] = L[o + j]'(by omega) := by
   have h1 : (cut L o m)[j]? = L[o + j]? := by
    unfold cut
    rw [List.getElem?_take, if_pos (by omega), List.getElem?_drop]
   rw [List.getElem?_eq_getElem hj, List.getElem?_eq_getElem (by omega)] at h1
   exact Option.some.inj h1
  rw [e])
 rwa [hm] at this
theorem conv_rblk {W : World} {b : Nat} {L : List UInt8} (h : RBlk W b L) (o m cap : Nat) (hl : o + m <= L.length) : (convert 102 9 (.slice (some ⟨b, o, none⟩) m cap)).run Tryz.prog W = .ok (.string ⟨(cut L o m).toArray⟩) W := by
 have hm : (cut L o m).length = m := by unfold cut; simp; omega
 have := run_convert_bytes_back (P := Tryz.prog) W 102 9 5 ⟨b, o, none⟩ cap (cut L o m) Tryz.underlying102 Tryz.underlying5 Tryz.underlying9 (fun j hj => by
  rw [show (⟨b, o, none⟩ : Addr).add j = ⟨b, o + j, none⟩ by unfold Addr.add; split <;> simp_all, h.cell (o + j) (by omega)]
  have e : (cut L o m)[j] = L[o + j]'(by omega) := by
   have h1 : (cut L o m)[j]? = L[o + j]? := by
    unfold cut
    rw [List.getElem?_take, if_pos (by omega), List.getElem?_drop]
   rw [List.getElem?_eq_getElem hj, List.getElem?_eq_getElem (by omega)] at h1
   exact Option.some.inj h1
  rw [e])
 rwa [hm] at this
def numL (l : List UInt8) : Nat := l.foldl (fun n c => n * 256 + c.toNat) 0
theorem numL_snoc (l : List UInt8) (x : UInt8) : numL (l ++ [x]) = numL l * 256 + x.toNat := by simp [numL]
theorem numL_lt (l : List UInt8) : ∀ x : Nat, l.foldl (fun n c => n * 256 + c.toNat) x < (x + 1) * 256 ^ l.length := by
 induction l with
 | nil => intro x; simp
 | cons c l ih =>
  intro x
  have h := ih (x * 256 + c.toNat)
  have hc := c.toNat_lt
  rw [List.foldl_cons, List.length_cons, Nat.pow_succ]
  refine Nat.lt_of_lt_of_le h ?_
  rw [Nat.mul_comm (256 ^ l.length) 256, <- Nat.mul_assoc]
  exact Nat.mul_le_mul_right _ (by omega)
theorem i64_or_nat (a b : Nat) (ha : a < 9223372036854775808) (hb : b < 9223372036854775808) : bits .or .i64 (a : Int) (b : Int) = ((a ||| b : Nat) : Int) := by
 have hx : a ||| b < 2 ^ 63 := Nat.or_lt_two_pow (by omega) (by omega)
 show IntKind.i64.wrap ((BitVec.ofInt 64 (a : Int) ||| BitVec.ofInt 64 (b : Int)).toNat : Int) = _
 rw [BitVec.toNat_or, ofInt_u64 a (by omega), ofInt_u64 b (by omega), IntKind.wrap_i64]
 omega
theorem cut_snoc (L : List UInt8) (o j : Nat) (h : o + j < L.length) : cut L o (j + 1) = cut L o j ++ [L[o + j]] := by
 unfold cut
 rw [List.take_succ_eq_append_getElem (by simp; omega)]
 simp
theorem cut_length (L : List UInt8) (o j : Nat) (h : o + j <= L.length) : (cut L o j).length = j := by
 unfold cut
 simp; omega
theorem number_walk {b o m cap : Nat} {L : List UInt8} {w : World} (hb : RBlk w b L) (hm : m <= 4) (hl : o + m <= L.length) :
 Calls Tryz.prog 144 #[.slice (some ⟨b, o, none⟩) m cap] w fun e w' => e = .returned (.int .i64 (numL (cut L o m) : Int)) /\ Below w.heap.size w w' := by
 have HB : Hid (RBlk w b L) := hb
 clear hb
 go_enter Tryz.func144, Tryz.ntmps144
 go_wp2
 go_loopw [3, 8] (fun n i wr => ∃ j : Nat, j <= m /\ i = .int .i64 (j : Int) /\ n = .int .i64 (numL (cut L o j) : Int) /\ Hid (Below w.heap.size w wr)) (fun _ i _ => m - (intOf i).toNat)
 case atStart => exact ⟨0, Nat.zero_le _, rfl, rfl, Below.refl _ _⟩
 case round =>
  obtain ⟨j, hj, rfl, rfl, HO⟩ := hrel
  by_cases hlt : j < m
  · have hB : RBlk wr b L := (HO.out.block b HB.out.lt).trans HB.out
    have hc := hB.cell (o + j) (by omega)
    clear hB
    have hlt' : (j : Int) < (m : Int) := by omega
    have hj0 : (0 : Int) <= (j : Int) := by omega
    go_wp2
    have hlo := numL_lt (cut L o j) 0
    rw [cut_length L o j (by omega)] at hlo
    have hlo' : numL (cut L o j) < 256 ^ 3 := Nat.lt_of_lt_of_le (by simpa [numL] using hlo) (Nat.pow_le_pow_right (by decide) (by omega))
    have hx := (L[o + j]).toNat_lt
    have hv : bits .or .i64 (wrap64 ((numL (cut L o j) : Int) * 256)) (wrap64 (L[o + j].toNat : Int)) = (numL (cut L o (j + 1)) : Int) := by
     rw [cut_snoc L o j (by omega), numL_snoc]
     generalize numL (cut L o j) = p at hlo' ⊢
     generalize (L[o + j]).toNat = q at hx ⊢
     have e1 : wrap64 ((p : Int) * 256) = ((p * 256 : Nat) : Int) := by unfold wrap64; omega
     have e2 : wrap64 (q : Int) = (q : Int) := by unfold wrap64; omega
     rw [e1, e2, i64_or_nat _ _ (by omega) (by omega), nat_join 8 (p * 256) q (by omega) (by omega)]
    rw [hv]
    exact ⟨⟨j + 1, by omega, by go_num, rfl, HO⟩, by simp [intOf]; omega⟩
  · have hlt' : (m : Int) <= (j : Int) := by omega
    have hjm : j = m := by omega
    subst hjm
    go_wp2
    go_ret
    exact ⟨rfl, HO.out⟩
def kidsL (L : List UInt8) (o j : Nat) : List Int := (List.range j).map fun i => (numL (cut L (o + 4 * i) 4) : Int)
theorem kidsL_length (L : List UInt8) (o j : Nat) : (kidsL L o j).length = j := by simp [kidsL]
theorem kidsL_snoc (L : List UInt8) (o j : Nat) : kidsL L o (j + 1) = kidsL L o j ++ [(numL (cut L (o + 4 * j) 4) : Int)] := by
 unfold kidsL
 rw [List.range_succ, List.map_append]
 rfl
structure Rk (w : World) (b : Nat) (L : List UInt8) (l : List Int) (v : Value) (wr : World) : Prop where
 below : Below w.heap.size w wr
 row : wr.ownsRow w.heap.size 3 1 v l.length (l.map iv)
 blk : RBlk wr b L
theorem Rk.on {w : World} {b : Nat} {L : List UInt8} {l : List Int} {v : Value} {wr wr' : World} (h : Rk w b L l v wr) (hb : Below wr.heap.size wr wr') : Rk w b L l v wr' :=
 ⟨h.below.trans (hb.mono h.below.size), owns_below h.row hb, (hb.block b h.blk.lt).trans h.blk⟩
theorem Rk.grow {w : World} {b : Nat} {L : List UInt8} {l l' : List Int} {v v' : Value} {wr w' : World} (h : Rk w b L l v wr) (hw : RBlk w b L) (hg : wr.grownBy w' v.ownBlock) {m : Nat} (hm : m = l'.length) (ho : w'.ownsRow w.heap.size 3 1 v' m (l'.map iv)) : Rk w b L l' v' w' := by
 subst hm
 have hb : Below w.heap.size w w' := h.below.grown hg h.below.size (fun k hk => (h.row.lt k hk).1)
 exact ⟨hb, ho, (hb.block b hw.lt).trans hw⟩
theorem readKids_walk {b o m cap k : Nat} {L : List UInt8} {w : World} (hb : RBlk w b L) (hk : m = 4 * k) (hkk : k <= 10000) (hcap : m <= cap) (hl : o + m <= L.length) (hc : cap <= 9223372036854775807) :
 Calls Tryz.prog 145 #[.slice (some ⟨b, o, none⟩) m cap] w fun e w' => ∃ v, e = .returned v /\ w'.ownsRow w.heap.size 3 1 v k ((kidsL L o k).map iv) /\ Below w.heap.size w w' := by
 have HB : Hid (RBlk w b L) := hb
 clear hb
 go_enter Tryz.func145, Tryz.ntmps145
 have hdiv : (m : Int) / 4 = (k : Int) := by omega
 have HK : Hid (m = 4 * k) := hk
 clear hk
 go_wp2
 go_loopw [3, 8] (fun v i wr => ∃ j : Nat, j <= k /\ i = .int .i64 (j : Int) /\ Hid (Rk w b L (kidsL L o j) v wr)) (fun _ i _ => k - (intOf i).toNat)
 case atStart => exact ⟨0, Nat.zero_le _, rfl, ⟨Below.refl _ _, ⟨rfl, Or.inl ⟨rfl, rfl⟩⟩, HB.out⟩⟩
 case round =>
  obtain ⟨j, hj, rfl, HO⟩ := hrel
  by_cases hlt : j < k
  · have hlt' : (j : Int) < (k : Int) := by omega
    have hm4 : 4 * (j + 1) <= m := by rw [HK.out]; omega
    have h0 : (0 : Int) <= 4 * (j : Int) := by omega
    have h1 : 4 * (j : Int) <= 4 * ((j : Int) + 1) := by omega
    have h2 : 4 * ((j : Int) + 1) <= (cap : Int) := by omega
    go_wp2_with fail
    have h4 : 4 * (j + 1) - 4 * j = 4 := by omega
    rw [h4]
    refine (number_walk (L := L) HO.out.blk (by omega) (by omega)).mono ?_
    rintro e w5 ⟨rfl, B5⟩
    have HO5 : Hid (Rk w b L (kidsL L o j) u3 w5) := HO.out.on B5
    clear HO B5
    have HO6 : Hid (Rk w b L (kidsL L o j) u3 (w5.alloc (.cells #[.int .i64 (numL (cut L (o + 4 * j) 4) : Int)] 3))) := HO5.out.on (below_alloc _ _)
    go_wp2_with (first
     | (at_builtin
        revert HO6)
     | fail)
    intro HO6
    refine append_row (z := .int .i64 0) (by_ := 8) Tryz.underlying49 (by kernel_rfl) (by decide) rfl w.heap.size HO6.out.below.size rfl _ _ rfl u3 (kidsL L o j).length ((kidsL L o j).map iv) ([(numL (cut L (o + 4 * j) 4) : Int)].map iv) rfl HO6.out.row (by rw [kidsL_length]; omega) 1 (by omega) ⟨w5.heap.size, 0, none⟩ 1 rfl rfl (one_int w5 _ _) (one_ivs _) ?_
    intro v' W' hown hg _
    have HO7 : Hid (Rk w b L (kidsL L o (j + 1)) v' W') := HO6.out.grow HB.out hg (m := (kidsL L o j).length + 1) (by rw [kidsL_length, kidsL_length]) (by rw [kidsL_snoc, List.map_append]; exact hown)
    clear hown hg HO6 HO5
    go_wp2
    exact ⟨⟨j + 1, by omega, by go_num, HO7⟩, by simp [intOf]; omega⟩
  · have hlt' : (k : Int) <= (j : Int) := by omega
    have hjm : j = k := by omega
    subst hjm
    go_wp2
    go_ret
    exact ⟨_, rfl, by have := HO.out.row; rwa [kidsL_length] at this, HO.out.below⟩
def begL (L : List UInt8) (o i : Nat) : Nat := numL (cut L (o + 4 * i) 2)
def lenL (L : List UInt8) (o i : Nat) : Nat := numL (cut L (o + 4 * i + 2) 2)
def recL (L : List UInt8) (o i : Nat) : ByteArray := ⟨(cut L (begL L o i) (lenL L o i)).toArray⟩
def recsL (L : List UInt8) (o j : Nat) : List ByteArray := (List.range j).map (recL L o)
def inL (L : List UInt8) (o j : Nat) : Prop := ∀ i, i < j -> begL L o i + lenL L o i <= L.length
theorem recsL_length (L : List UInt8) (o j : Nat) : (recsL L o j).length = j := by simp [recsL]
theorem recsL_snoc (L : List UInt8) (o j : Nat) : recsL L o (j + 1) = recsL L o j ++ [recL L o j] := by
 unfold recsL
 rw [List.range_succ, List.map_append]
 rfl
theorem num2_lt (L : List UInt8) (o : Nat) : numL (cut L o 2) < 65536 := by
 have h := numL_lt (cut L o 2) 0
 have hl : (cut L o 2).length <= 2 := by unfold cut; simp; omega
 refine Nat.lt_of_lt_of_le (show numL (cut L o 2) < 1 * 256 ^ (cut L o 2).length by simpa [numL] using h) ?_
 rw [Nat.one_mul]
 exact Nat.pow_le_pow_right (by decide) hl
structure Rr (w : World) (b : Nat) (L : List UInt8) (l : List ByteArray) (v : Value) (wr : World) : Prop where
 below : Below w.heap.size w wr
 row : wr.ownsRow w.heap.size 9 1 v l.length (svs l)
 blk : RBlk wr b L
theorem Rr.on {w : World} {b : Nat} {L : List UInt8} {l : List ByteArray} {v : Value} {wr wr' : World} (h : Rr w b L l v wr) (hb : Below wr.heap.size wr wr') : Rr w b L l v wr' :=
 ⟨h.below.trans (hb.mono h.below.size), owns_below h.row hb, (hb.block b h.blk.lt).trans h.blk⟩
theorem Rr.grow {w : World} {b : Nat} {L : List UInt8} {l l' : List ByteArray} {v v' : Value} {wr w' : World} (h : Rr w b L l v wr) (hw : RBlk w b L) (hg : wr.grownBy w' v.ownBlock) {m : Nat} (hm : m = l'.length) (ho : w'.ownsRow w.heap.size 9 1 v' m (svs l')) : Rr w b L l' v' w' := by
 subst hm
 have hb : Below w.heap.size w w' := h.below.grown hg h.below.size (fun k hk => (h.row.lt k hk).1)
 exact ⟨hb, ho, (hb.block b hw.lt).trans hw⟩
theorem one_str (W : World) (x : ByteArray) (t : TypeId) : ∀ i u, (svs [x])[i]? = some u -> (W.alloc (.cells #[.string x] t)).cell? ((⟨W.heap.size, 0, none⟩ : Addr).add i) = some u := by
 intro i u h
 have hi : i = 0 := by
  have := (List.getElem?_eq_some_iff.1 h).1
  simpa [svs] using this
 subst hi
 simp [svs] at h
 subst h
 simp [go_sem]
theorem readRecs_walk {b o m cap capb k lb : Nat} {L : List UInt8} {w : World} (hb : RBlk w b L) (hlb : lb = L.length) (hk : m = 4 * k) (hkk : k <= 10000) (hcap : m <= cap) (hl : o + m <= lb) (hc : cap <= 9223372036854775807) (hcb : lb <= capb) (hcb2 : capb <= 9223372036854775807) :
 Calls Tryz.prog 146 #[.slice (some ⟨b, 0, none⟩) lb capb, .slice (some ⟨b, o, none⟩) m cap] w fun e w' => Below w.heap.size w w' /\ ((inL L o k /\ ∃ v, e = .returned (.tuple #[v, .bool true]) /\ w'.ownsRow w.heap.size 9 1 v k (svs (recsL L o k))) \/ (¬ inL L o k /\ e = .returned (.tuple #[.slice none 0 0, .bool false]))) := by
 have HB : Hid (RBlk w b L) := hb
 clear hb
 go_enter Tryz.func146, Tryz.ntmps146
 have hdiv : (m : Int) / 4 = (k : Int) := by omega
 have HK : Hid (m = 4 * k) := hk
 have HL : Hid (lb = L.length) := hlb
 clear hk hlb
 go_wp2
 go_loopw [6, 14] (fun v i wr => ∃ j : Nat, j <= k /\ i = .int .i64 (j : Int) /\ Hid (inL L o j) /\ Hid (Rr w b L (recsL L o j) v wr)) (fun _ i _ => k - (intOf i).toNat)
 case atStart => exact ⟨0, Nat.zero_le _, rfl, (fun i hi => absurd hi (Nat.not_lt_zero _)), ⟨Below.refl _ _, ⟨rfl, Or.inl ⟨rfl, rfl⟩⟩, HB.out⟩⟩
 case round =>
  obtain ⟨j, hj, rfl, HI, HO⟩ := hrel
  by_cases hlt : j < k
  · have hlt' : (j : Int) < (k : Int) := by omega
    have hm4 : 4 * (j + 1) <= m := by rw [HK.out]; omega
    have h0 : (0 : Int) <= 4 * (j : Int) := by omega
    have h1 : 4 * (j : Int) <= 4 * ((j : Int) + 1) := by omega
    have h2 : 4 * ((j : Int) + 1) <= (cap : Int) := by omega
    have h4 : 4 * (j + 1) - 4 * j = 4 := by omega
    have h5 : (2 : Int) <= ((cap - 4 * j : Nat) : Int) := by omega
    have h6 : 2 <= cap - 4 * j := by omega
    go_wp2_with fail
    refine (number_walk (L := L) HO.out.blk (by omega) (by have := HL.out; omega)).mono ?_
    rintro e w5 ⟨rfl, B5⟩
    have HO5 : Hid (Rr w b L (recsL L o j) u6 w5) := HO.out.on B5
    clear HO B5
    rw [h4]
    have hp5 := num2_lt L (o + 4 * j)
    have HP : Hid (begL L o j = numL (cut L (o + 4 * j) 2)) := rfl
    generalize numL (cut L (o + 4 * j) 2) = p at hp5 HP ⊢
    go_wp2_with fail
    refine (number_walk (L := L) (o := o + 4 * j + 2) HO5.out.blk (by omega) (by have := HL.out; omega)).mono ?_
    rintro e w6 ⟨rfl, B6⟩
    have HO6 : Hid (Rr w b L (recsL L o j) u6 w6) := HO5.out.on B6
    clear HO5 B6
    have hq6 := num2_lt L (o + 4 * j + 2)
    have HQ : Hid (lenL L o j = numL (cut L (o + 4 * j + 2) 2)) := rfl
    generalize numL (cut L (o + 4 * j + 2) 2) = q at hq6 HQ ⊢
    by_cases hpq : p + q <= lb
    · have hpq' : (p : Int) + (q : Int) <= (lb : Int) := by omega
      have hpq2 : (p : Int) + (q : Int) <= (capb : Int) := by omega
      have hp0 : (p : Int) <= (p : Int) + (q : Int) := by omega
      have hcv : (convert 102 9 (.slice (some ⟨b, p, none⟩) q (capb - p))).run Tryz.prog w6 = .ok (.string ⟨(cut L p q).toArray⟩) w6 := conv_rblk HO6.out.blk p q (capb - p) (by have := HL.out; omega)
      have HS : Hid (recL L o j = ⟨(cut L p q).toArray⟩) := by show recL L o j = _; unfold recL; rw [HP.out, HQ.out]
      have HIj : Hid (inL L o (j + 1)) := fun i hi => by
       by_cases e : i = j
       · subst e; rw [HP.out, HQ.out, <- HL.out]; exact hpq
       · exact HI.out i (by omega)
      have hcv0 : q = 0 -> (convert 102 9 (.slice (some ⟨b, 0, none⟩) 0 0)).run Tryz.prog w6 = .ok (.string ⟨(cut L p q).toArray⟩) w6 := fun h => by
       have := conv_rblk HO6.out.blk 0 0 0 (by omega)
       rw [this, h]
       simp [cut]
      generalize (⟨(cut L p q).toArray⟩ : ByteArray) = S at hcv hcv0 HS
      have HO7 : Hid (Rr w b L (recsL L o j) u6 (w6.alloc (.cells #[.string S] 9))) := HO6.out.on (below_alloc _ _)
      by_cases hcp : capb = p
      · have hq0 : q = 0 := by omega
        have hcv1 := hcv0 hq0
        clear hcv0 hcv
        subst hcp
        subst hq0
        go_wp2_with (first
         | (at_builtin
            revert HO7)
         | fail)
        intro HO7
        refine append_row (z := .string ⟨#[]⟩) (by_ := 16) Tryz.underlying33 (by kernel_rfl) (by decide) rfl w.heap.size HO7.out.below.size rfl _ _ rfl u6 (recsL L o j).length (svs (recsL L o j)) (svs [S]) rfl HO7.out.row (by rw [recsL_length]; omega) 1 (by omega) ⟨w6.heap.size, 0, none⟩ 1 rfl rfl (one_str w6 _ _) (one_svs _) ?_
        intro v' W' hown hg _
        have HO8 : Hid (Rr w b L (recsL L o (j + 1)) v' W') := HO7.out.grow HB.out hg (m := (recsL L o j).length + 1) (by rw [recsL_length, recsL_length]) (by rw [recsL_snoc, HS.out]; unfold svs at hown ⊢; rw [List.map_append]; exact hown)
        clear hown hg HO7 HO6
        go_wp2
        exact ⟨⟨j + 1, by omega, by go_num, HIj, HO8⟩, by simp [intOf]; omega⟩
      · clear hcv0
        go_wp2_with (first
         | (at_builtin
            revert HO7)
         | fail)
        intro HO7
        refine append_row (z := .string ⟨#[]⟩) (by_ := 16) Tryz.underlying33 (by kernel_rfl) (by decide) rfl w.heap.size HO7.out.below.size rfl _ _ rfl u6 (recsL L o j).length (svs (recsL L o j)) (svs [S]) rfl HO7.out.row (by rw [recsL_length]; omega) 1 (by omega) ⟨w6.heap.size, 0, none⟩ 1 rfl rfl (one_str w6 _ _) (one_svs _) ?_
        intro v' W' hown hg _
        have HO8 : Hid (Rr w b L (recsL L o (j + 1)) v' W') := HO7.out.grow HB.out hg (m := (recsL L o j).length + 1) (by rw [recsL_length, recsL_length]) (by rw [recsL_snoc, HS.out]; unfold svs at hown ⊢; rw [List.map_append]; exact hown)
        clear hown hg HO7 HO6
        go_wp2
        exact ⟨⟨j + 1, by omega, by go_num, HIj, HO8⟩, by simp [intOf]; omega⟩
    · have hpq' : (lb : Int) < (p : Int) + (q : Int) := by omega
      have HN : Hid (¬ inL L o k) := fun h => hpq (by have := h j hlt; rw [HP.out, HQ.out, <- HL.out] at this; exact this)
      go_wp2
      go_ret2
      exact ⟨HO6.out.below, Or.inr ⟨HN.out, rfl⟩⟩
  · have hlt' : (k : Int) <= (j : Int) := by omega
    have hjm : j = k := by omega
    subst hjm
    go_wp2
    go_ret2
    exact ⟨HO.out.below, Or.inl ⟨HI.out, _, rfl, by have := HO.out.row; rwa [recsL_length] at this⟩⟩
theorem hidd {p : Prop} (h : p) : Hid p := h
def cntL (L : List UInt8) : Nat := numL (cut L 1 2)
def leafB (L : List UInt8) : Bool := byteAt L 0 == 1
def kidN (L : List UInt8) : Nat := if leafB L then 0 else cntL L + 1
def slotAt (L : List UInt8) : Nat := 3 + 4 * kidN L
def rawN (L : List UInt8) : No := ⟨leafB L, recsL L (slotAt L) (cntL L), kidsL L 3 (kidN L)⟩
def rawOk (L : List UInt8) : Prop := slotAt L + 4 * cntL L <= 1024 /\ inL L (slotAt L) (cntL L)
theorem read_no {a : Option Addr} {lb cap : Nat} {w : World} (h : lb ≠ 1024) :
 Calls Tryz.prog 126 #[.slice a lb cap] w fun e w' => Below w.heap.size w w' /\ e = .returned (.tuple #[.agg #[.bool false, .slice none 0 0, .slice none 0 0], .bool false]) := by
 have h' : ¬ (lb : Int) = 1024 := by omega
 go_enter Tryz.func126, Tryz.ntmps126
 go_wp2
 refine bodyPost_ret (v := .tuple #[.agg #[.bool false, .slice none 0 0, .slice none 0 0], .bool false]) ?_ rfl ?_
 · simp [results, Tryz.results126, go_sem]
 · exact ⟨below_alloc _ _, rfl⟩
structure Rw (w : World) (b : Nat) (L : List UInt8) (wr : World) : Prop where
 below : Below w.heap.size w wr
 z : wr.heap[w.heap.size]? = some zNode
 blk : RBlk wr b L
theorem Rw.on {w : World} {b : Nat} {L : List UInt8} {wr wr' : World} (h : Rw w b L wr) (hb : Below wr.heap.size wr wr') : Rw w b L wr' :=
 ⟨h.below.trans (hb.mono h.below.size), (hb.block _ (Array.getElem?_eq_some_iff.1 h.z).1).trans h.z, (hb.block b h.blk.lt).trans h.blk⟩
theorem Rw.new {w : World} {b : Nat} {L : List UInt8} (h : RBlk w b L) : Rw w b L (w.alloc zNode) :=
 ⟨below_alloc _ _, heap_alloc_last _ _, ((below_alloc w zNode).block b h.lt).trans h⟩
def ROut (w : World) (x y z : Value) (W : World) : Prop :=
 W.cell? ⟨w.heap.size, 0, none⟩ = some x /\ W.cell? ⟨w.heap.size, 1, none⟩ = some y /\ W.cell? ⟨w.heap.size, 2, none⟩ = some z /\ Below w.heap.size w W
theorem read_fail {w W : World} {b : Nat} {L : List UInt8} (h : Rw w b L W) (x y z : Value) (ob : Obj) : ROut w x y z ((put3 W w.heap.size x y z).alloc ob) := by
 have hb : Below w.heap.size w (put3 W w.heap.size x y z) := put3_below h.below (Nat.le_refl _) x y z
 have hz := put3_block h.z x y z
 have ha := below_alloc (put3 W w.heap.size x y z) ob
 have hz2 := (ha.block _ (Array.getElem?_eq_some_iff.1 hz).1).trans hz
 obtain ⟨c0, c1, c2⟩ := node_cells hz2
 exact ⟨c0, c1, c2, hb.trans (ha.mono hb.size)⟩
structure Rx (w : World) (b : Nat) (L : List UInt8) (p : Nat) (x y z : Value) (wr : World) : Prop where
 rw : Rw w b L wr
 n : wr.heap[p]? = some (.cells #[x, y, z] 90 (0, 0))
theorem Rx.on {w : World} {b : Nat} {L : List UInt8} {p : Nat} {x y z : Value} {wr wr' : World} (h : Rx w b L p x y z wr) (hb : Below wr.heap.size wr wr') : Rx w b L p x y z wr' :=
 ⟨h.rw.on hb, (hb.block _ (Array.getElem?_eq_some_iff.1 h.n).1).trans h.n⟩
theorem Rw.node {w : World} {b : Nat} {L : List UInt8} {wr : World} (h : Rw w b L wr) (x y z : Value) : Rx w b L wr.heap.size x y z (wr.alloc (.cells #[x, y, z] 90)) :=
 ⟨h.on (below_alloc _ _), heap_alloc_last _ _⟩
theorem Rx.set {w : World} {b : Nat} {L : List UInt8} {p : Nat} {x y z : Value} {wr : World} (h : Rx w b L p x y z wr) (hp : w.heap.size < p) (hb : b ≠ p) (v : Value) (i : Nat) {cs : Array Value} (hcs : #[x, y, z].setIfInBounds i v = cs) :
 Rw w b L (wr.setCell ⟨p, i, none⟩ v) /\ (wr.setCell ⟨p, i, none⟩ v).heap[p]? = some (.cells cs 90 (0, 0)) := by
 refine ⟨⟨h.rw.below.setCell (by show w.heap.size <= p; omega) v, ?_, ?_⟩, ?_⟩
 · rw [heap_setCell_other _ _ _ _ (by show w.heap.size ≠ p; omega)]; exact h.rw.z
 · unfold RBlk; rw [heap_setCell_other _ _ _ _ hb]; exact h.rw.blk
 · subst hcs; exact heap_setCell_same wr p i _ _ v h.n
def RRes (w : World) (x r k : Value) (A : Nat) (l : List Value) (B : Nat) (ks : List Value) (W : World) : Prop :=
 ROut w x r k W /\ W.ownsRow w.heap.size 9 1 r A l /\ W.ownsRow w.heap.size 3 1 k B ks
theorem read_end {w W : World} {b : Nat} {L : List UInt8} {p : Nat} {x y z : Value} (h : Rx w b L p x y z W) (hp : w.heap.size < p) (hb : b ≠ p) {r : Value} {A B : Nat} {l ks : List Value} (h1 : W.ownsRow w.heap.size 9 1 r A l) (h2 : W.ownsRow w.heap.size 3 1 z B ks) : RRes w x r z A l B ks (put3 (W.setCell ⟨p, 1, none⟩ r) w.heap.size x r z) := by
 obtain ⟨s1, s2⟩ := h.set hp hb r 1 rfl
 have o1 := owns_node h1 (by decide) h.n 1 r
 have o2 := owns_node h2 (by decide) h.n 1 r
 obtain ⟨c0, c1, c2⟩ := node_cells (put3_block s1.z x r z)
 exact ⟨⟨c0, c1, c2, put3_below s1.below (Nat.le_refl _) x r z⟩, owns_put3 o1 (by decide) s1.z x r z, owns_put3 o2 (by decide) s1.z x r z⟩
theorem read_walk {b : Nat} {L : List UInt8} {w : World} (hb : RBlk w b L) (hl : L.length = 1024) :
 Calls Tryz.prog 126 #[.slice (some ⟨b, 0, none⟩) 1024 1024] w fun e w' => Below w.heap.size w w' /\ ((rawOk L /\ ∃ r k, e = .returned (.tuple #[.agg #[.bool (leafB L), r, k], .bool true]) /\ w'.ownsRow w.heap.size 9 1 r (cntL L) (svs (rawN L).recs) /\ w'.ownsRow w.heap.size 3 1 k (kidN L) (ivs (rawN L).kids)) \/ (¬ rawOk L /\ ∃ lf x m q, e = .returned (.tuple #[.agg #[.bool lf, .slice none 0 0, .slice x m q], .bool false]))) := by
 have HB : Hid (RBlk w b L) := hb
 have HL : Hid (L.length = 1024) := hl
 clear hb hl
 go_enter Tryz.func126, Tryz.ntmps126
 go_wp2_with fail
 have H0 : Hid (Rw w b L (w.alloc (.cells #[.bool false, .slice none 0 0, .slice none 0 0] 90))) := Rw.new HB.out
 refine (number_walk (L := L) H0.out.blk (by omega) (by have := HL.out; omega)).mono ?_
 rintro e w1 ⟨rfl, B1⟩
 have H1 : Hid (Rw w b L w1) := H0.out.on B1
 clear H0 B1
 have hc0 := H1.out.blk.cell 0 (by have := HL.out; omega)
 have z0 := (node_cells H1.out.z).1
 have z1 := (node_cells H1.out.z).2.1
 have z2 := (node_cells H1.out.z).2.2
 have zf : ∀ i, w1.frozen? ⟨w.heap.size, i, none⟩ = false := fun i => frozen_of_row _ _ _ _ _ H1.out.z
 have xl : w.heap.size < w1.heap.size := (Array.getElem?_eq_some_iff.1 H1.out.z).1
 have hcl := num2_lt L 1
 have HC : Hid (cntL L = numL (cut L 1 2)) := rfl
 generalize numL (cut L 1 2) = cn at hcl HC ⊢
 have hby : byteAt L 0 = (L[0]'(by have := HL.out; omega)).toNat := by unfold byteAt; rw [List.getD_eq_getElem?_getD, List.getElem?_eq_getElem (by have := HL.out; omega)]; rfl
 cases hlf : leafB L
 · have h01 : ¬ ((L[0]'(by have := HL.out; omega)).toNat : Int) = 1 := by
    have : ¬ byteAt L 0 = 1 := by simpa [leafB] using hlf
    rw [hby] at this
    omega
   clear hby
   generalize ((L[0]'(by have := HL.out; omega)).toNat : Int) = y at hc0 h01
   have h02 : (y == 1) = false := by simpa using h01
   by_cases hend : 3 + 4 * (cn + 1) + 4 * cn <= 1024
   · have j1 : (3 : Int) <= 3 + 4 * ((cn : Int) + 1) := by omega
     have j2 : 3 + 4 * ((cn : Int) + 1) <= 1024 := by omega
     have hend' : 3 + 4 * ((cn : Int) + 1) + 4 * (cn : Int) <= 1024 := by omega
     go_wp2_with fail
     have H2 : Hid (Rx w b L w1.heap.size (.bool false) (.slice none 0 0) (.slice none 0 0) (w1.alloc (.cells #[.bool false, .slice none 0 0, .slice none 0 0] 90))) := H1.out.node _ _ _
     refine (readKids_walk (L := L) (k := cn + 1) H2.out.rw.blk (by omega) (by omega) (by omega) (by have := HL.out; omega) (by omega)).mono ?_
     rintro e w2 ⟨v2, rfl, O2, B2⟩
     obtain ⟨x2, q2, rfl, _, _, _⟩ := owns_rd O2
     have H3 : Hid (Rx w b L w1.heap.size (.bool false) (.slice none 0 0) (.slice none 0 0) w2) := H2.out.on B2
     have HO2 : Hid (w2.ownsRow w.heap.size 3 1 (.slice x2 (cn + 1) q2) (cn + 1) ((kidsL L 3 (cn + 1)).map iv)) := owns_base O2 H2.out.rw.below.size
     clear z0 z1 z2 zf H2 O2 B2 hc0
     have y0 := (node_cells H3.out.n).1
     have y1 := (node_cells H3.out.n).2.1
     have y2 := (node_cells H3.out.n).2.2
     have yf : ∀ i, w2.frozen? ⟨w1.heap.size, i, none⟩ = false := fun i => frozen_of_row _ _ _ _ _ H3.out.n
     have yl : w1.heap.size < w2.heap.size := (Array.getElem?_eq_some_iff.1 H3.out.n).1
     have hbn : b ≠ w1.heap.size := fun e => by have := HB.out.lt; omega
     have i1 : 3 + 4 * ((cn : Int) + 1) <= 3 + 4 * ((cn : Int) + 1) + 4 * (cn : Int) := by omega
     have i2 : 3 + 4 * ((cn : Int) + 1) <= 1024 := by omega
     have i3 : (3 : Int) <= 3 + 4 * ((cn : Int) + 1) := by omega
     go_wp2_with fail
     have HS := hidd (H3.out.set xl hbn (.slice x2 (cn + 1) q2) 2 rfl)
     have HO3 := hidd (owns_node HO2.out (by decide) H3.out.n 2 (.slice x2 (cn + 1) q2))
     have H4 : Hid (Rx w b L w1.heap.size (.bool false) (.slice none 0 0) (.slice x2 (cn + 1) q2) (w2.setCell ⟨w1.heap.size, 2, none⟩ (.slice x2 (cn + 1) q2))) := ⟨HS.out.1, HS.out.2⟩
     clear HS H3 HO2 y0 y1 y2 yf yl
     generalize w2.setCell ⟨w1.heap.size, 2, none⟩ (.slice x2 (cn + 1) q2) = w3 at H4 HO3 ⊢
     refine (readRecs_walk (L := L) (k := cn) H4.out.rw.blk HL.out.symm rfl (by omega) (by omega) (by omega) (by omega) (by omega) (by omega)).mono ?_
     rintro e w4 ⟨B4, ⟨hin, v4, rfl, O4⟩ | ⟨hin, rfl⟩⟩
     · obtain ⟨x4, q4, rfl, _, _, _⟩ := owns_rd O4
       have H5 := hidd (H4.out.on B4)
       have HO4 := hidd (owns_base O4 H4.out.rw.below.size)
       have HO5 := hidd (owns_below HO3.out B4)
       clear O4 B4 HO3 H4
       have HI : Hid _ := hin
       clear hin
       have y0 := (node_cells H5.out.n).1
       have y1 := (node_cells H5.out.n).2.1
       have y2 := (node_cells H5.out.n).2.2
       have yf : ∀ i, w4.frozen? ⟨w1.heap.size, i, none⟩ = false := fun i => frozen_of_row _ _ _ _ _ H5.out.n
       have yl : w1.heap.size < w4.heap.size := (Array.getElem?_eq_some_iff.1 H5.out.n).1
       have z0 := (node_cells H5.out.rw.z).1
       have z1 := (node_cells H5.out.rw.z).2.1
       have z2 := (node_cells H5.out.rw.z).2.2
       have zf : ∀ i, w4.frozen? ⟨w.heap.size, i, none⟩ = false := fun i => frozen_of_row _ _ _ _ _ H5.out.rw.z
       have e1 := set_far (p := w1.heap.size) (q := w.heap.size) (by omega)
       have e2 := set_far (p := w.heap.size) (q := w1.heap.size) (by omega)
       go_wp2_with fail
       refine to_letter (read_end H5.out xl hbn HO4.out HO5.out) ?_
       clear y0 y1 y2 yf yl z0 z1 z2 zf e1 e2 H5 HO4 HO5
       intro Wf hF
       obtain ⟨⟨g0, g1, g2, hB⟩, r1, r2⟩ := hF
       refine bodyPost_ret (v := .tuple #[.agg #[.bool false, .slice x4 cn q4, .slice x2 (cn + 1) q2], .bool true]) ?_ rfl ?_
       · simp [results, Tryz.results126, go_sem, g0, g1, g2]
       · refine ⟨hB, Or.inl ⟨?_, _, _, by rw [hlf], ?_, ?_⟩⟩
         · unfold rawOk
           rw [show slotAt L = 3 + 4 * (cn + 1) by unfold slotAt kidN; rw [hlf, HC.out]; rfl, HC.out]
           exact ⟨hend, HI.out⟩
         · unfold rawN
           rw [show slotAt L = 3 + 4 * (cn + 1) by unfold slotAt kidN; rw [hlf, HC.out]; rfl, HC.out]
           exact r1
         · unfold rawN
           rw [show kidN L = cn + 1 by unfold kidN; rw [hlf, HC.out]; rfl]
           exact r2
     · have H5 := hidd (H4.out.on B4)
       have HO5 := hidd (owns_below HO3.out B4)
       clear B4 HO3 H4
       have HN : Hid (¬ rawOk L) := fun h => hin (by
        have := h.2
        rw [show slotAt L = 3 + 4 * (cn + 1) by unfold slotAt kidN; rw [hlf, HC.out]; rfl, HC.out] at this
        exact this)
       clear hin
       have y0 := (node_cells H5.out.n).1
       have y1 := (node_cells H5.out.n).2.1
       have y2 := (node_cells H5.out.n).2.2
       have yf : ∀ i, w4.frozen? ⟨w1.heap.size, i, none⟩ = false := fun i => frozen_of_row _ _ _ _ _ H5.out.n
       have yl : w1.heap.size < w4.heap.size := (Array.getElem?_eq_some_iff.1 H5.out.n).1
       have z0 := (node_cells H5.out.rw.z).1
       have z1 := (node_cells H5.out.rw.z).2.1
       have z2 := (node_cells H5.out.rw.z).2.2
       have zf : ∀ i, w4.frozen? ⟨w.heap.size, i, none⟩ = false := fun i => frozen_of_row _ _ _ _ _ H5.out.rw.z
       have e1 := set_far (p := w1.heap.size) (q := w.heap.size) (by omega)
       have e2 := set_far (p := w.heap.size) (q := w1.heap.size) (by omega)
       go_wp2_with fail
       refine to_letter (read_end (r := .slice none 0 0) H5.out xl hbn (World.ownsRow_nil _ _ _ _) HO5.out) ?_
       clear y0 y1 y2 yf yl z0 z1 z2 zf e1 e2 H5 HO5
       intro Wf hF
       obtain ⟨⟨g0, g1, g2, hB⟩, _, _⟩ := hF
       refine bodyPost_ret (v := .tuple #[.agg #[.bool false, .slice none 0 0, .slice x2 (cn + 1) q2], .bool false]) ?_ rfl ?_
       · simp [results, Tryz.results126, go_sem, g0, g1, g2]
       · exact ⟨hB, Or.inr ⟨HN.out, _, _, _, _, rfl⟩⟩
   · have hend' : 1024 < 3 + 4 * ((cn : Int) + 1) + 4 * (cn : Int) := by omega
     have HN : Hid (¬ rawOk L) := fun h => by
      have := h.1
      unfold slotAt kidN at this
      rw [hlf, HC.out] at this
      simp at this
      omega
     go_wp2_with fail
     refine to_letter (read_fail H1.out (.bool false) (.slice none 0 0) (.slice none 0 0) _) ?_
     clear z0 z1 z2 zf H1 xl hc0
     intro Wf hF
     obtain ⟨g0, g1, g2, hF⟩ := hF
     refine bodyPost_ret (v := .tuple #[.agg #[.bool false, .slice none 0 0, .slice none 0 0], .bool false]) ?_ rfl ?_
     · simp [results, Tryz.results126, go_sem, g0, g1, g2]
     · exact ⟨hF, Or.inr ⟨HN.out, _, _, _, _, rfl⟩⟩
 · have h01 : (L[0]'(by have := HL.out; omega)).toNat = 1 := by rw [<- hby]; simpa [leafB] using hlf
   rw [h01] at hc0
   clear h01 hby
   by_cases hend : 3 + 4 * cn <= 1024
   · have hend' : 3 + 4 * (cn : Int) <= 1024 := by omega
     go_wp2_with fail
     have H2 : Hid (Rx w b L w1.heap.size (.bool true) (.slice none 0 0) (.slice none 0 0) (w1.alloc (.cells #[.bool true, .slice none 0 0, .slice none 0 0] 90))) := H1.out.node _ _ _
     refine (readKids_walk (L := L) (k := 0) H2.out.rw.blk (by omega) (by omega) (by omega) (by have := HL.out; omega) (by omega)).mono ?_
     rintro e w2 ⟨v2, rfl, O2, B2⟩
     obtain ⟨x2, q2, rfl, _, _, _⟩ := owns_rd O2
     have H3 : Hid (Rx w b L w1.heap.size (.bool true) (.slice none 0 0) (.slice none 0 0) w2) := H2.out.on B2
     have HO2 : Hid (w2.ownsRow w.heap.size 3 1 (.slice x2 0 q2) 0 ((kidsL L 3 0).map iv)) := owns_base O2 H2.out.rw.below.size
     clear z0 z1 z2 zf H2 O2 B2 hc0
     have y0 := (node_cells H3.out.n).1
     have y1 := (node_cells H3.out.n).2.1
     have y2 := (node_cells H3.out.n).2.2
     have yf : ∀ i, w2.frozen? ⟨w1.heap.size, i, none⟩ = false := fun i => frozen_of_row _ _ _ _ _ H3.out.n
     have yl : w1.heap.size < w2.heap.size := (Array.getElem?_eq_some_iff.1 H3.out.n).1
     have hbn : b ≠ w1.heap.size := fun e => by have := HB.out.lt; omega
     have i1 : (3 : Int) <= 3 + 4 * (cn : Int) := by omega
     go_wp2_with fail
     have HS := hidd (H3.out.set xl hbn (.slice x2 0 q2) 2 rfl)
     have HO3 := hidd (owns_node HO2.out (by decide) H3.out.n 2 (.slice x2 0 q2))
     have H4 : Hid (Rx w b L w1.heap.size (.bool true) (.slice none 0 0) (.slice x2 0 q2) (w2.setCell ⟨w1.heap.size, 2, none⟩ (.slice x2 0 q2))) := ⟨HS.out.1, HS.out.2⟩
     clear HS H3 HO2 y0 y1 y2 yf yl
     generalize w2.setCell ⟨w1.heap.size, 2, none⟩ (.slice x2 0 q2) = w3 at H4 HO3 ⊢
     refine (readRecs_walk (L := L) (k := cn) H4.out.rw.blk HL.out.symm rfl (by omega) (by omega) (by omega) (by omega) (by omega) (by omega)).mono ?_
     rintro e w4 ⟨B4, ⟨hin, v4, rfl, O4⟩ | ⟨hin, rfl⟩⟩
     · obtain ⟨x4, q4, rfl, _, _, _⟩ := owns_rd O4
       have H5 := hidd (H4.out.on B4)
       have HO4 := hidd (owns_base O4 H4.out.rw.below.size)
       have HO5 := hidd (owns_below HO3.out B4)
       clear O4 B4 HO3 H4
       have HI : Hid _ := hin
       clear hin
       have y0 := (node_cells H5.out.n).1
       have y1 := (node_cells H5.out.n).2.1
       have y2 := (node_cells H5.out.n).2.2
       have yf : ∀ i, w4.frozen? ⟨w1.heap.size, i, none⟩ = false := fun i => frozen_of_row _ _ _ _ _ H5.out.n
       have yl : w1.heap.size < w4.heap.size := (Array.getElem?_eq_some_iff.1 H5.out.n).1
       have z0 := (node_cells H5.out.rw.z).1
       have z1 := (node_cells H5.out.rw.z).2.1
       have z2 := (node_cells H5.out.rw.z).2.2
       have zf : ∀ i, w4.frozen? ⟨w.heap.size, i, none⟩ = false := fun i => frozen_of_row _ _ _ _ _ H5.out.rw.z
       have e1 := set_far (p := w1.heap.size) (q := w.heap.size) (by omega)
       have e2 := set_far (p := w.heap.size) (q := w1.heap.size) (by omega)
       go_wp2_with fail
       refine to_letter (read_end H5.out xl hbn HO4.out HO5.out) ?_
       clear y0 y1 y2 yf yl z0 z1 z2 zf e1 e2 H5 HO4 HO5
       intro Wf hF
       obtain ⟨⟨g0, g1, g2, hB⟩, r1, r2⟩ := hF
       refine bodyPost_ret (v := .tuple #[.agg #[.bool true, .slice x4 cn q4, .slice x2 0 q2], .bool true]) ?_ rfl ?_
       · simp [results, Tryz.results126, go_sem, g0, g1, g2]
       · refine ⟨hB, Or.inl ⟨?_, _, _, by rw [hlf], ?_, ?_⟩⟩
         · unfold rawOk
           rw [show slotAt L = 3 by unfold slotAt kidN; rw [hlf]; rfl, HC.out]
           exact ⟨hend, HI.out⟩
         · unfold rawN
           rw [show slotAt L = 3 by unfold slotAt kidN; rw [hlf]; rfl, HC.out]
           exact r1
         · unfold rawN
           rw [show kidN L = 0 by unfold kidN; rw [hlf]; rfl]
           exact r2
     · have H5 := hidd (H4.out.on B4)
       have HO5 := hidd (owns_below HO3.out B4)
       clear B4 HO3 H4
       have HN : Hid (¬ rawOk L) := fun h => hin (by
        have := h.2
        rw [show slotAt L = 3 by unfold slotAt kidN; rw [hlf]; rfl, HC.out] at this
        exact this)
       clear hin
       have y0 := (node_cells H5.out.n).1
       have y1 := (node_cells H5.out.n).2.1
       have y2 := (node_cells H5.out.n).2.2
       have yf : ∀ i, w4.frozen? ⟨w1.heap.size, i, none⟩ = false := fun i => frozen_of_row _ _ _ _ _ H5.out.n
       have yl : w1.heap.size < w4.heap.size := (Array.getElem?_eq_some_iff.1 H5.out.n).1
       have z0 := (node_cells H5.out.rw.z).1
       have z1 := (node_cells H5.out.rw.z).2.1
       have z2 := (node_cells H5.out.rw.z).2.2
       have zf : ∀ i, w4.frozen? ⟨w.heap.size, i, none⟩ = false := fun i => frozen_of_row _ _ _ _ _ H5.out.rw.z
       have e1 := set_far (p := w1.heap.size) (q := w.heap.size) (by omega)
       have e2 := set_far (p := w.heap.size) (q := w1.heap.size) (by omega)
       go_wp2_with fail
       refine to_letter (read_end (r := .slice none 0 0) H5.out xl hbn (World.ownsRow_nil _ _ _ _) HO5.out) ?_
       clear y0 y1 y2 yf yl z0 z1 z2 zf e1 e2 H5 HO5
       intro Wf hF
       obtain ⟨⟨g0, g1, g2, hB⟩, _, _⟩ := hF
       refine bodyPost_ret (v := .tuple #[.agg #[.bool true, .slice none 0 0, .slice x2 0 q2], .bool false]) ?_ rfl ?_
       · simp [results, Tryz.results126, go_sem, g0, g1, g2]
       · exact ⟨hB, Or.inr ⟨HN.out, _, _, _, _, rfl⟩⟩
   · have hend' : 1024 < 3 + 4 * (cn : Int) := by omega
     have HN : Hid (¬ rawOk L) := fun h => by
      have := h.1
      unfold slotAt kidN at this
      rw [hlf, HC.out] at this
      simp at this
      omega
     go_wp2_with fail
     refine to_letter (read_fail H1.out (.bool false) (.slice none 0 0) (.slice none 0 0) _) ?_
     clear z0 z1 z2 zf H1 xl hc0
     intro Wf hF
     obtain ⟨g0, g1, g2, hF⟩ := hF
     refine bodyPost_ret (v := .tuple #[.agg #[.bool false, .slice none 0 0, .slice none 0 0], .bool false]) ?_ rfl ?_
     · simp [results, Tryz.results126, go_sem, g0, g1, g2]
     · exact ⟨hF, Or.inr ⟨HN.out, _, _, _, _, rfl⟩⟩
theorem cut_all {m : Nat} (L : List UInt8) (h : L.length = m) : cut L 0 m = L := by
 subst h
 simp [cut]
theorem equal_walk {b1 b2 m : Nat} {L1 L2 : List UInt8} {w : World} (h1 : Blk w b1 L1) (h2 : RBlk w b2 L2) (l1 : L1.length = m) (l2 : L2.length = m) (c1 c2 : Nat) :
 Calls Tryz.prog 127 #[.slice (some ⟨b1, 0, none⟩) m c1, .slice (some ⟨b2, 0, none⟩) m c2] w fun e w' => e = .returned (.bool (L1 == L2)) /\ Below w.heap.size w w' := by
 have k1 := conv_blk h1 0 m c1 (by omega)
 have k2 := conv_rblk h2 0 m c2 (by omega)
 rw [cut_all _ l1] at k1
 rw [cut_all _ l2] at k2
 clear h1 h2
 go_enter Tryz.func127, Tryz.ntmps127
 go_wp2
 go_ret
 exact ⟨rfl, Below.refl _ _⟩
theorem raw_small {L : List UInt8} (hl : L.length = 1024) (h : rawOk L) : (rawN L).small := by
 have h1 := h.1
 unfold slotAt at h1
 refine ⟨?_, ?_, ?_⟩
 · show (recsL L _ _).length <= 1000
   rw [recsL_length]; omega
 · show (kidsL L _ _).length <= 1000
   rw [kidsL_length]; omega
 · intro s hs
   obtain ⟨i, _, rfl⟩ := List.mem_map.1 (show s ∈ (List.range (cntL L)).map (recL L (slotAt L)) from hs)
   show (cut L _ _).toArray.size <= 5000
   have : (cut L (begL L (slotAt L) i) (lenL L (slotAt L) i)).length <= 1024 := by unfold cut; simp; omega
   simpa using Nat.le_trans this (by omega)
def pageOk (L : List UInt8) : Prop := rawOk L /\ (rawN L).shaped = true /\ (rawN L).size <= 1024 /\ pageL (rawN L).toNd = L
structure Dz (w wr : World) : Prop where
 below : Below w.heap.size w wr
 z : wr.heap[w.heap.size]? = some zNode
theorem Dz.on {w wr wr' : World} (h : Dz w wr) (hb : Below wr.heap.size wr wr') : Dz w wr' :=
 ⟨h.below.trans (hb.mono h.below.size), (hb.block _ (Array.getElem?_eq_some_iff.1 h.z).1).trans h.z⟩
theorem Dz.new (w : World) : Dz w (w.alloc zNode) := ⟨below_alloc _ _, heap_alloc_last _ _⟩
theorem Dz.out {w W : World} (h : Dz w W) (x y z : Value) : ROut w x y z (put3 W w.heap.size x y z) := by
 obtain ⟨c0, c1, c2⟩ := node_cells (put3_block h.z x y z)
 exact ⟨c0, c1, c2, put3_below h.below (Nat.le_refl _) x y z⟩
theorem Dz.fail {w W : World} (h : Dz w W) (x y z : Value) (ob : Obj) : ROut w x y z ((put3 W w.heap.size x y z).alloc ob) := by
 have hb : Below w.heap.size w (put3 W w.heap.size x y z) := put3_below h.below (Nat.le_refl _) x y z
 have hz := put3_block h.z x y z
 have ha := below_alloc (put3 W w.heap.size x y z) ob
 have hz2 := (ha.block _ (Array.getElem?_eq_some_iff.1 hz).1).trans hz
 obtain ⟨c0, c1, c2⟩ := node_cells hz2
 exact ⟨c0, c1, c2, hb.trans (ha.mono hb.size)⟩
theorem decode_no {a : Option Addr} {lb cap : Nat} {w : World} (h : lb ≠ 1024) :
 Calls Tryz.prog 103 #[.slice a lb cap] w fun e w' => Below w.heap.size w w' /\ e = .returned (.tuple #[.agg #[.bool false, .slice none 0 0, .slice none 0 0], .int .i64 16]) := by
 go_enter Tryz.func103, Tryz.ntmps103
 go_wp2_with fail
 refine (read_no h).mono ?_
 rintro e w1 ⟨B1, rfl⟩
 have H1 : Hid (Dz w w1) := (Dz.new w).on B1
 clear B1
 have z0 := (node_cells H1.out.z).1
 have z1 := (node_cells H1.out.z).2.1
 have z2 := (node_cells H1.out.z).2.2
 have zf : ∀ i, w1.frozen? ⟨w.heap.size, i, none⟩ = false := fun i => frozen_of_row _ _ _ _ _ H1.out.z
 have xl : w.heap.size < w1.heap.size := (Array.getElem?_eq_some_iff.1 H1.out.z).1
 go_wp2_with fail
 refine to_letter (H1.out.fail (.bool false) (.slice none 0 0) (.slice none 0 0) _) ?_
 clear z0 z1 z2 zf H1 xl
 intro Wf hF
 obtain ⟨g0, g1, g2, hF⟩ := hF
 refine bodyPost_ret (v := .tuple #[.agg #[.bool false, .slice none 0 0, .slice none 0 0], .int .i64 16]) ?_ rfl ?_
 · simp [results, Tryz.results103, go_sem, g0, g1, g2]
 · exact ⟨hF, rfl⟩
structure Dx (w : World) (b : Nat) (L : List UInt8) (p : Nat) (x r k : Value) (wr : World) : Prop where
 dz : Dz w wr
 n : wr.heap[p]? = some (.cells #[x, r, k] 90 (0, 0))
 blk : RBlk wr b L
 o1 : wr.ownsRow w.heap.size 9 1 r (cntL L) (svs (rawN L).recs)
 o2 : wr.ownsRow w.heap.size 3 1 k (kidN L) (ivs (rawN L).kids)
theorem Dx.on {w : World} {b : Nat} {L : List UInt8} {p : Nat} {x r k : Value} {wr wr' : World} (h : Dx w b L p x r k wr) (hb : Below wr.heap.size wr wr') : Dx w b L p x r k wr' :=
 ⟨h.dz.on hb, (hb.block _ (Array.getElem?_eq_some_iff.1 h.n).1).trans h.n, (hb.block b h.blk.lt).trans h.blk, owns_below h.o1 hb, owns_below h.o2 hb⟩
theorem Dx.out {w W : World} {b : Nat} {L : List UInt8} {p : Nat} {x r k : Value} (h : Dx w b L p x r k W) : RRes w x r k (cntL L) (svs (rawN L).recs) (kidN L) (ivs (rawN L).kids) (put3 W w.heap.size x r k) :=
 ⟨h.dz.out x r k, owns_put3 h.o1 (by decide) h.dz.z x r k, owns_put3 h.o2 (by decide) h.dz.z x r k⟩
theorem decode_walk {b : Nat} {L : List UInt8} {w : World} (hb : RBlk w b L) (hl : L.length = 1024) :
 Calls Tryz.prog 103 #[.slice (some ⟨b, 0, none⟩) 1024 1024] w fun e w' => Below w.heap.size w w' /\ ((pageOk L /\ ∃ r k, e = .returned (.tuple #[.agg #[.bool (leafB L), r, k], .int .i64 0]) /\ w'.ownsRow w.heap.size 9 1 r (cntL L) (svs (rawN L).recs) /\ w'.ownsRow w.heap.size 3 1 k (kidN L) (ivs (rawN L).kids)) \/ (¬ pageOk L /\ e = .returned (.tuple #[.agg #[.bool false, .slice none 0 0, .slice none 0 0], .int .i64 16]))) := by
 have HB : Hid (RBlk w b L) := hb
 have HL : Hid (L.length = 1024) := hl
 clear hb hl
 go_enter Tryz.func103, Tryz.ntmps103
 go_wp2_with fail
 have H0 : Hid (Dz w (w.alloc (.cells #[.bool false, .slice none 0 0, .slice none 0 0] 90))) := Dz.new w
 refine (read_walk (L := L) (((below_alloc w _).block b HB.out.lt).trans HB.out) HL.out).mono ?_
 rintro e w1 ⟨B1, ⟨hok, r, k, rfl, O1, O2⟩ | ⟨hok, lf, x, m, q, rfl⟩⟩
 · obtain ⟨x1, q1, rfl, R1, _, _⟩ := owns_rd O1
   obtain ⟨x2, q2, rfl, R2, _, _⟩ := owns_rd O2
   have H1 : Hid (Dz w w1) := H0.out.on B1
   have HO1 := hidd (owns_base O1 H0.out.below.size)
   have HO2 := hidd (owns_base O2 H0.out.below.size)
   have HR : Hid (NR w1 (rawN L) x1 q1 x2 q2) := ⟨R1, R2⟩
   have HS := hidd (raw_small HL.out hok)
   clear B1 O1 O2 R1 R2 H0
   have z0 := (node_cells H1.out.z).1
   have z1 := (node_cells H1.out.z).2.1
   have z2 := (node_cells H1.out.z).2.2
   have zf : ∀ i, w1.frozen? ⟨w.heap.size, i, none⟩ = false := fun i => frozen_of_row _ _ _ _ _ H1.out.z
   have xl : w.heap.size < w1.heap.size := (Array.getElem?_eq_some_iff.1 H1.out.z).1
   go_wp2_with fail
   have B0 := below_alloc w1 (.cells #[.bool (leafB L), .slice x1 (cntL L) q1, .slice x2 (kidN L) q2] 90)
   have H2 : Hid (Dx w b L w1.heap.size (.bool (leafB L)) (.slice x1 (cntL L) q1) (.slice x2 (kidN L) q2) (w1.alloc (.cells #[.bool (leafB L), .slice x1 (cntL L) q1, .slice x2 (kidN L) q2] 90))) :=
    ⟨H1.out.on B0, heap_alloc_last _ _, (B0.block b (by have := HB.out.lt; omega)).trans ((H1.out.below.block b HB.out.lt).trans HB.out), owns_below HO1.out B0, owns_below HO2.out B0⟩
   have HR2 := hidd (HR.out.below B0)
   clear HR B0 HO1 HO2 H1 z0 z1 z2 zf
   have ev : Value.agg #[.bool (leafB L), .slice x1 (cntL L) q1, .slice x2 (kidN L) q2] = nodeV (rawN L) x1 q1 x2 q2 := by
    have e1 : (rawN L).recs.length = cntL L := recsL_length _ _ _
    have e2 : (rawN L).kids.length = kidN L := kidsL_length _ _ _
    unfold nodeV
    rw [e1, e2]
    rfl
   have HEN := hidd (fun h => encode_no HR2.out HS.out h)
   have HEL := hidd (fun h h2 => encode_long HR2.out HS.out h h2)
   have HEO := hidd (fun h h2 => encode_ok HR2.out HS.out h h2)
   rw [<- ev] at HEN HEL HEO
   clear ev HR2
   generalize w1.alloc (.cells #[.bool (leafB L), .slice x1 (cntL L) q1, .slice x2 (kidN L) q2] 90) = w2 at H2 HEN HEL HEO ⊢
   generalize w1.heap.size = pn at H2 xl ⊢
   cases hsh : (rawN L).shaped
   · have HN : Hid (¬ pageOk L) := fun h => by have := h.2.1; rw [hsh] at this; cases this
     refine (HEN.out hsh).mono ?_
     rintro e w3 ⟨rfl, B3⟩
     have H3 := hidd (H2.out.on B3)
     clear H2 HEN HEL HEO xl B3
     have z0 := (node_cells H3.out.dz.z).1
     have z1 := (node_cells H3.out.dz.z).2.1
     have z2 := (node_cells H3.out.dz.z).2.2
     have zf : ∀ i, w3.frozen? ⟨w.heap.size, i, none⟩ = false := fun i => frozen_of_row _ _ _ _ _ H3.out.dz.z
     have xl : w.heap.size < w3.heap.size := (Array.getElem?_eq_some_iff.1 H3.out.dz.z).1
     go_wp2_with fail
     refine to_letter (H3.out.dz.out (.bool false) (.slice none 0 0) (.slice none 0 0)) ?_
     clear z0 z1 z2 zf H3 xl
     intro Wf hF
     obtain ⟨g0, g1, g2, hF⟩ := hF
     refine bodyPost_ret (v := .tuple #[.agg #[.bool false, .slice none 0 0, .slice none 0 0], .int .i64 16]) ?_ rfl ?_
     · simp [results, Tryz.results103, go_sem, g0, g1, g2]
     · exact ⟨hF, Or.inr ⟨HN.out, rfl⟩⟩
   by_cases hsz : 1024 < (rawN L).size
   · have HN : Hid (¬ pageOk L) := fun h => by have := h.2.2.1; omega
     refine (HEL.out hsh hsz).mono ?_
     rintro e w3 ⟨rfl, B3⟩
     have H3 := hidd (H2.out.on B3)
     clear H2 HEN HEL HEO xl B3
     have z0 := (node_cells H3.out.dz.z).1
     have z1 := (node_cells H3.out.dz.z).2.1
     have z2 := (node_cells H3.out.dz.z).2.2
     have zf : ∀ i, w3.frozen? ⟨w.heap.size, i, none⟩ = false := fun i => frozen_of_row _ _ _ _ _ H3.out.dz.z
     have xl : w.heap.size < w3.heap.size := (Array.getElem?_eq_some_iff.1 H3.out.dz.z).1
     go_wp2_with fail
     refine to_letter (H3.out.dz.out (.bool false) (.slice none 0 0) (.slice none 0 0)) ?_
     clear z0 z1 z2 zf H3 xl
     intro Wf hF
     obtain ⟨g0, g1, g2, hF⟩ := hF
     refine bodyPost_ret (v := .tuple #[.agg #[.bool false, .slice none 0 0, .slice none 0 0], .int .i64 16]) ?_ rfl ?_
     · simp [results, Tryz.results103, go_sem, g0, g1, g2]
     · exact ⟨hF, Or.inr ⟨HN.out, rfl⟩⟩
   · refine (HEO.out hsh (by omega)).mono ?_
     rintro e w3 ⟨b3, rfl, hb3, K3, B3⟩
     have H3 := hidd (H2.out.on B3)
     have HK3 := hidd K3
     have hln : (pageL (rawN L).toNd).length = 1024 := pageL_length (by rw [toNd_size]; omega)
     clear H2 HEN HEL HEO xl B3 K3
     go_wp2_with fail
     refine (equal_walk HK3.out H3.out.blk hln HL.out 1024 1024).mono ?_
     rintro e w4 ⟨rfl, B4⟩
     have H4 := hidd (H3.out.on B4)
     clear H3 HK3 B4
     have z0 := (node_cells H4.out.dz.z).1
     have z1 := (node_cells H4.out.dz.z).2.1
     have z2 := (node_cells H4.out.dz.z).2.2
     have zf : ∀ i, w4.frozen? ⟨w.heap.size, i, none⟩ = false := fun i => frozen_of_row _ _ _ _ _ H4.out.dz.z
     have xl : w.heap.size < w4.heap.size := (Array.getElem?_eq_some_iff.1 H4.out.dz.z).1
     by_cases heq : pageL (rawN L).toNd = L
     · have hbe : (pageL (rawN L).toNd == L) = true := by simpa using heq
       have y0 := (node_cells H4.out.n).1
       have y1 := (node_cells H4.out.n).2.1
       have y2 := (node_cells H4.out.n).2.2
       have yl : pn < w4.heap.size := (Array.getElem?_eq_some_iff.1 H4.out.n).1
       rw [hbe]
       go_wp2_with fail
       refine to_letter H4.out.out ?_
       clear y0 y1 y2 yl z0 z1 z2 zf H4
       intro Wf hF
       obtain ⟨⟨g0, g1, g2, hB⟩, r1, r2⟩ := hF
       refine bodyPost_ret (v := .tuple #[.agg #[.bool (leafB L), .slice x1 (cntL L) q1, .slice x2 (kidN L) q2], .int .i64 0]) ?_ rfl ?_
       · simp [results, Tryz.results103, go_sem, g0, g1, g2]
       · exact ⟨hB, Or.inl ⟨⟨hok, hsh, by omega, heq⟩, _, _, rfl, r1, r2⟩⟩
     · have hbe : (pageL (rawN L).toNd == L) = false := by simpa using heq
       have HN : Hid (¬ pageOk L) := fun h => heq h.2.2.2
       rw [hbe]
       go_wp2_with fail
       refine to_letter (H4.out.dz.out (.bool false) (.slice none 0 0) (.slice none 0 0)) ?_
       clear z0 z1 z2 zf H4 xl
       intro Wf hF
       obtain ⟨g0, g1, g2, hF⟩ := hF
       refine bodyPost_ret (v := .tuple #[.agg #[.bool false, .slice none 0 0, .slice none 0 0], .int .i64 16]) ?_ rfl ?_
       · simp [results, Tryz.results103, go_sem, g0, g1, g2]
       · exact ⟨hF, Or.inr ⟨HN.out, rfl⟩⟩
 · have H1 : Hid (Dz w w1) := H0.out.on B1
   have HN : Hid (¬ pageOk L) := fun h => hok h.1
   clear H0 B1
   have z0 := (node_cells H1.out.z).1
   have z1 := (node_cells H1.out.z).2.1
   have z2 := (node_cells H1.out.z).2.2
   have zf : ∀ i, w1.frozen? ⟨w.heap.size, i, none⟩ = false := fun i => frozen_of_row _ _ _ _ _ H1.out.z
   have xl : w.heap.size < w1.heap.size := (Array.getElem?_eq_some_iff.1 H1.out.z).1
   go_wp2_with fail
   refine to_letter (H1.out.fail (.bool false) (.slice none 0 0) (.slice none 0 0) _) ?_
   clear z0 z1 z2 zf H1 xl
   intro Wf hF
   obtain ⟨g0, g1, g2, hF⟩ := hF
   refine bodyPost_ret (v := .tuple #[.agg #[.bool false, .slice none 0 0, .slice none 0 0], .int .i64 16]) ?_ rfl ?_
   · simp [results, Tryz.results103, go_sem, g0, g1, g2]
   · exact ⟨hF, Or.inr ⟨HN.out, rfl⟩⟩
theorem byteAt_get (L : List UInt8) (i : Nat) (h : i < L.length) : byteAt L i = L[i].toNat := by
 unfold byteAt
 rw [List.getD_eq_getElem?_getD, List.getElem?_eq_getElem h]
 rfl
theorem cut_zero (L : List UInt8) (i : Nat) : cut L i 0 = [] := by simp [cut]
theorem num2_at (L : List UInt8) (i : Nat) (h : i + 2 <= L.length) : numL (cut L i 2) = at2 L i := by
 rw [cut_snoc L i 1 (by omega), numL_snoc, cut_snoc L i 0 (by omega), numL_snoc, cut_zero]
 unfold at2
 rw [byteAt_get L i (by omega), byteAt_get L (i + 1) (by omega)]
 simp [numL]
theorem num4_at (L : List UInt8) (i : Nat) (h : i + 4 <= L.length) : numL (cut L i 4) = at4 L i := by
 rw [cut_snoc L i 3 (by omega), numL_snoc, cut_snoc L i 2 (by omega), numL_snoc, cut_snoc L i 1 (by omega), numL_snoc, cut_snoc L i 0 (by omega), numL_snoc, cut_zero]
 unfold at4
 rw [byteAt_get L i (by omega), byteAt_get L (i + 1) (by omega), byteAt_get L (i + 2) (by omega), byteAt_get L (i + 3) (by omega)]
 simp [numL]
theorem cnt_at {L : List UInt8} (hl : L.length = 1024) : cntL L = at2 L 1 := num2_at L 1 (by omega)
theorem slot_at {L : List UInt8} (hl : L.length = 1024) : slotAt L = if byteAt L 0 == 1 then 3 else 3 + 4 * (at2 L 1 + 1) := by
 unfold slotAt kidN leafB
 rw [cnt_at hl]
 split <;> simp
theorem raw_read {L : List UInt8} (hl : L.length = 1024) (h : slotAt L + 4 * cntL L <= 1024) : (rawN L).toNd = readNd L := by
 have hc := cnt_at hl
 have hs := slot_at hl
 have e1 : (recsL L (slotAt L) (cntL L)).map (fun s => s.data.toList) = (List.range (at2 L 1)).map fun i => cut L (at2 L (slotAt L + 4 * i)) (at2 L (slotAt L + 4 * i + 2)) := by
  unfold recsL
  rw [List.map_map, hc]
  refine List.map_congr_left fun i hi => ?_
  have hi' : i < at2 L 1 := List.mem_range.1 hi
  have b1 : begL L (slotAt L) i = at2 L (slotAt L + 4 * i) := num2_at L _ (by omega)
  have b2 : lenL L (slotAt L) i = at2 L (slotAt L + 4 * i + 2) := num2_at L _ (by omega)
  show (cut L (begL L (slotAt L) i) (lenL L (slotAt L) i)).toArray.toList = _
  rw [b1, b2]
 have e2 : (kidsL L 3 (kidN L)).map Int.toNat = if byteAt L 0 == 1 then [] else (List.range (at2 L 1 + 1)).map fun i => at4 L (3 + 4 * i) := by
  unfold kidsL
  rw [List.map_map]
  have hk : kidN L = if byteAt L 0 == 1 then 0 else at2 L 1 + 1 := by unfold kidN leafB; rw [hc]
  have hle : 3 + 4 * kidN L <= 1024 := by unfold slotAt at h; omega
  have : (List.range (kidN L)).map (Int.toNat ∘ fun i => (numL (cut L (3 + 4 * i) 4) : Int)) = (List.range (kidN L)).map fun i => at4 L (3 + 4 * i) := by
   refine List.map_congr_left fun i hi => ?_
   have hi' : i < kidN L := List.mem_range.1 hi
   show (numL (cut L (3 + 4 * i) 4) : Int).toNat = _
   rw [num4_at L _ (by omega)]
   simp
  rw [this, hk]
  split <;> simp
 unfold No.toNd readNd
 show (⟨leafB L, (recsL L (slotAt L) (cntL L)).map (fun s => s.data.toList), (kidsL L 3 (kidN L)).map Int.toNat⟩ : Nd) = _
 rw [e1, e2, hs]
 rfl
theorem shaped_toNd {n : No} (h : n.shaped = true) : n.toNd.Shaped := by
 unfold No.shaped at h
 simp only [Bool.and_eq_true, List.all_eq_true, List.mem_range, beq_iff_eq] at h
 obtain ⟨⟨h1, h2⟩, h3⟩ := h
 refine ⟨?_, ?_, ?_⟩
 · show (n.kids.map Int.toNat).length = if n.leaf then 0 else (n.recs.map (·.data.toList)).length + 1
   simpa using h3
 · intro k hk
   obtain ⟨x, hx, rfl⟩ := List.mem_map.1 (show k ∈ n.kids.map Int.toNat from hk)
   have := h2 x hx
   unfold kidOk at this
   simp at this
   omega
 · intro r hr
   obtain ⟨s, hs, rfl⟩ := List.mem_map.1 (show r ∈ n.recs.map (·.data.toList) from hr)
   obtain ⟨i, hi, rfl⟩ := List.getElem_of_mem hs
   have := h1 i hi
   unfold recOk at this
   rw [List.getElem?_eq_getElem hi] at this
   simp at this
   have e : (n.recs[i]).data.toList.length = (n.recs[i]).size := by simp
   omega
theorem toNd_inj {n m : No} (hn : ∀ k ∈ n.kids, 0 <= k) (hm : ∀ k ∈ m.kids, 0 <= k) (h : n.toNd = m.toNd) : n = m := by
 have h1 : n.leaf = m.leaf := congrArg Nd.leaf h
 have h2 : n.recs.map (fun s => s.data.toList) = m.recs.map (fun s => s.data.toList) := congrArg Nd.recs h
 have h3 : n.kids.map Int.toNat = m.kids.map Int.toNat := congrArg Nd.kids h
 have e2 : n.recs = m.recs := by
  have := congrArg (List.map fun l : List UInt8 => (⟨l.toArray⟩ : ByteArray)) h2
  simpa [List.map_map, Function.comp_def] using this
 have e3 : n.kids = m.kids := by
  have := congrArg (List.map fun l : Nat => (l : Int)) h3
  rw [List.map_map, List.map_map] at this
  have f : ∀ l : List Int, (∀ k ∈ l, 0 <= k) -> l.map ((fun l : Nat => (l : Int)) ∘ Int.toNat) = l := fun l hl => by
   conv => rhs; rw [<- List.map_id l]
   refine List.map_congr_left fun k hk => ?_
   have := hl k hk
   show ((k.toNat : Nat) : Int) = k
   omega
  rwa [f _ hn, f _ hm] at this
 cases n; cases m
 simp_all
theorem raw_page {n : No} (h : n.shaped = true) (hs : n.size <= 1024) : pageOk (pageL n.toNd) /\ rawN (pageL n.toNd) = n := by
 have hS := shaped_toNd h
 have hz : n.toNd.size <= 1024 := by rw [toNd_size]; exact hs
 have hl := pageL_length hz
 obtain ⟨p1, p2, p3, p4⟩ := read_page hS hz
 have hk : n.toNd.kids.length = n.kids.length := by simp [No.toNd]
 have hr : n.toNd.recs.length = n.recs.length := by simp [No.toNd]
 have hc : cntL (pageL n.toNd) = n.recs.length := by rw [cnt_at hl, p3, hr]
 have hsl : slotAt (pageL n.toNd) = 3 + 4 * n.toNd.kids.length := by
  rw [slot_at hl, p2, p3, hS.kids]
  cases n.toNd.leaf <;> simp
 have hb : slotAt (pageL n.toNd) + 4 * cntL (pageL n.toNd) <= 1024 := by
  rw [hsl, hc]
  have : n.toNd.size = 3 + 4 * n.toNd.kids.length + (4 * n.toNd.recs.length + lens n.toNd.recs) := rfl
  omega
 have hraw : rawN (pageL n.toNd) = n := by
  refine toNd_inj ?_ ?_ (by rw [raw_read hl hb, p1])
  · intro k hk
    obtain ⟨i, _, rfl⟩ := List.mem_map.1 (show k ∈ (List.range (kidN (pageL n.toNd))).map fun i => (numL (cut (pageL n.toNd) (3 + 4 * i) 4) : Int) from hk)
    omega
  · intro k hk
    unfold No.shaped at h
    simp only [Bool.and_eq_true, List.all_eq_true] at h
    have := h.1.2 k hk
    unfold kidOk at this
    simp at this
    omega
 refine ⟨⟨⟨hb, fun i hi => ?_⟩, by rw [hraw]; exact h, by rw [hraw]; exact hs, by rw [hraw]⟩, hraw⟩
 rw [hc] at hi
 have := p4 i (by omega)
 unfold begL lenL
 rw [num2_at _ _ (by omega), num2_at _ _ (by omega), hsl, hl]
 exact this
theorem owns_at {W : World} {b : Nat} {e : TypeId} {v : Value} {n : Nat} {xs : List Value} (h : W.ownsRow b e 1 v n xs) : ∃ a cap, v = .slice a n cap := by
 obtain ⟨a, cap, h1, _⟩ := owns_rd h
 exact ⟨a, cap, h1⟩
theorem owns_rd_slice {W : World} {b : Nat} {e : TypeId} {a : Option Addr} {c n : Nat} {xs : List Value} (h : W.ownsRow b e 1 (.slice a n c) n xs) : Rd W a c xs := by
 obtain ⟨a', c', e', hr, _⟩ := owns_rd h
 cases e'
 exact hr
theorem decode_page {b : Nat} {n : No} {w : World} (hb : RBlk w b (pageL n.toNd)) (hs : n.shaped = true) (hz : n.size <= 1024) :
 Calls Tryz.prog 103 #[.slice (some ⟨b, 0, none⟩) 1024 1024] w fun e w' => ∃ a c a' c', e = .returned (.tuple #[nodeV n a c a' c', .int .i64 0]) /\ w'.ownsRow w.heap.size 9 1 (.slice a n.recs.length c) n.recs.length (svs n.recs) /\ w'.ownsRow w.heap.size 3 1 (.slice a' n.kids.length c') n.kids.length (ivs n.kids) /\ Below w.heap.size w w' := by
 obtain ⟨hok, hraw⟩ := raw_page hs hz
 refine (decode_walk hb (pageL_length (by rw [toNd_size]; exact hz))).mono ?_
 rintro e w' ⟨B, ⟨_, r, k, rfl, o1, o2⟩ | ⟨hno, _⟩⟩
 · have e1 : leafB (pageL n.toNd) = n.leaf := congrArg No.leaf hraw
   rw [hraw] at o1 o2
   have l1 := o1.1
   have l2 := o2.1
   rw [svs_length, Nat.mul_one] at l1
   rw [ivs_length, Nat.mul_one] at l2
   rw [<- l1] at o1
   rw [<- l2] at o2
   obtain ⟨a, c, rfl⟩ := owns_at o1
   obtain ⟨a', c', rfl⟩ := owns_at o2
   exact ⟨a, c, a', c', by rw [e1]; rfl, o1, o2, B⟩
 · exact absurd hok hno
theorem conv_row {W : World} {B : Nat} {v : Value} {m : Nat} {L : List UInt8} (h : W.ownsRow B 5 1 v m (bcs L)) (hl : L.length = m) (h0 : 0 < m) : (convert 102 9 v).run Tryz.prog W = .ok (.string ⟨L.toArray⟩) W := by
 obtain ⟨ad, cap, rfl, hr, _, _⟩ := owns_rd h
 subst hl
 match L, hr with
 | [], _ => exact absurd h0 (Nat.lt_irrefl 0)
 | x :: L, hr =>
  obtain ⟨b, o, rfl, _, _⟩ := hr.2.2 0 _ rfl
  exact run_convert_bytes_back (P := Tryz.prog) W 102 9 5 ⟨b, o, none⟩ cap (x :: L) Tryz.underlying102 Tryz.underlying5 Tryz.underlying9 (fun j hj => by
   obtain ⟨b', o', e, _, hc⟩ := hr.2.2 j (.int .u8 ((x :: L)[j].toNat : Int)) (by unfold bcs; rw [List.getElem?_map, List.getElem?_eq_getElem hj]; rfl)
   cases e
   rw [show (⟨b, o, none⟩ : Addr).add j = ⟨b, o + j, none⟩ by unfold Addr.add; split <;> simp_all]
   exact hc)
end Go.Proofs.YtpcmiholbcmmjaaGreat.L5
namespace Go.Proofs.YtpcmiholbcmmjaaGreat.L4
open Go.RowKit
def HG (Φ : Ar -> World -> Prop) (p : Nat) (a : Abs) (w : World) : Prop := ∃ s, s.p = p /\ ArP s w /\ s.abs = a /\ a.Ok /\ Φ s w
variable {Φ : Ar -> World -> Prop} {p : Nat} {a : Abs} {w : World}
end Go.Proofs.YtpcmiholbcmmjaaGreat.L4
namespace Go.Proofs.YtpcmiholbcmmjaaGreat
open Go.RowKit
theorem tbelow (w : World) (o : Obj) : Below w.heap.size w (w.alloc o) := (Below.refl _ _).alloc (Nat.le_refl _) o
theorem tbelow_on {a b c : World} (h : Below a.heap.size a b) (k : Below b.heap.size b c) : Below a.heap.size a c := h.trans (k.mono h.size)
theorem thid {p : Prop} (h : p) : Hid p := h
theorem hfield (a b c : Int) (w : World) : (Instr.field 66 (.agg #[.int .i64 a, .int .i64 b, .int .i64 c]) 0).run Tryz.prog w = .ok (.int .i64 a) w /\ (Instr.field 66 (.agg #[.int .i64 a, .int .i64 b, .int .i64 c]) 1).run Tryz.prog w = .ok (.int .i64 b) w /\ (Instr.field 66 (.agg #[.int .i64 a, .int .i64 b, .int .i64 c]) 2).run Tryz.prog w = .ok (.int .i64 c) w := by
 refine ⟨?_, ?_, ?_⟩ <;> simp [Instr.field, run_underlying Tryz.underlying66, go_sem, Tryz.isAgg3, asAgg]
structure TrC (w : World) (t p r h l : Nat) : Prop where
 blk : w.heap[t]? = some (.cells #[.pointer (some ⟨p, 0, none⟩), .int .i64 (r : Int), .int .i64 (h : Int), .int .i64 (l : Int)] 82 (0, 0))
theorem TrC.cells {w : World} {t p r h l : Nat} (k : TrC w t p r h l) : w.cell? ⟨t, 0, none⟩ = some (.pointer (some ⟨p, 0, none⟩)) /\ w.cell? ⟨t, 1, none⟩ = some (.int .i64 (r : Int)) /\ w.cell? ⟨t, 2, none⟩ = some (.int .i64 (h : Int)) /\ w.cell? ⟨t, 3, none⟩ = some (.int .i64 (l : Int)) /\ t < w.heap.size /\ ∀ i, w.frozen? ⟨t, i, none⟩ = false := by
 refine ⟨?_, ?_, ?_, ?_, (Array.getElem?_eq_some_iff.1 k.blk).1, fun i => frozen_of_row _ _ _ _ _ k.blk⟩ <;> rw [cell_of_row _ _ _ _ _ _ k.blk] <;> rfl
theorem TrC.on {w w' : World} {t p r h l : Nat} (k : TrC w t p r h l) (hb : Below w.heap.size w w') : TrC w' t p r h l := ⟨(hb.block _ (Array.getElem?_eq_some_iff.1 k.blk).1).trans k.blk⟩
theorem head_ok {w : World} {t p r h l : Nat} (k : TrC w t p r h l) : Calls Tryz.prog 34 #[.pointer (some ⟨t, 0, none⟩)] w fun e w' => e = .returned (.agg #[.int .i64 (r : Int), .int .i64 (h : Int), .int .i64 (l : Int)]) /\ Below w.heap.size w w' := by
 obtain ⟨c0, c1, c2, c3, ct, cf⟩ := k.cells
 go_enter Tryz.func34, Tryz.ntmps34
 go_wp2
 refine bodyPost_ret (v := .agg #[.int .i64 (r : Int), .int .i64 (h : Int), .int .i64 (l : Int)]) (by simp [results, Tryz.results34, go_sem]) rfl ⟨rfl, tbelow _ _⟩
theorem over_ok {w : World} {t p r h l : Nat} (k : TrC w t p r h l) (hr : r ≠ 0) : Calls Tryz.prog 47 #[.pointer (some ⟨t, 0, none⟩)] w fun e w' => e = .returned (.bool false) /\ Below w.heap.size w w' := by
 have hr' : ¬ (r : Int) = 0 := by omega
 have hr2 : ((r : Int) == 0) = false := by rw [beq_eq_false_iff_ne]; exact hr'
 go_enter Tryz.func47, Tryz.ntmps47
 go_wp2_with fail
 refine (head_ok k).mono ?_
 rintro e w1 ⟨rfl, B1⟩
 obtain ⟨hf0, hf1, hf2⟩ := hfield (r : Int) (h : Int) (l : Int) w1
 go_wp2
 go_ret
 exact ⟨rfl, B1⟩
theorem len_ok {w : World} {t p r h l : Nat} (k : TrC w t p r h l) : Calls Tryz.prog 14 #[.pointer (some ⟨t, 0, none⟩)] w fun e w' => e = .returned (.int .i64 (l : Int)) /\ Below w.heap.size w w' := by
 go_enter Tryz.func14, Tryz.ntmps14
 go_wp2_with fail
 refine (head_ok k).mono ?_
 rintro e w1 ⟨rfl, B1⟩
 obtain ⟨hf0, hf1, hf2⟩ := hfield (r : Int) (h : Int) (l : Int) w1
 go_wp2
 go_ret
 exact ⟨rfl, B1⟩
theorem height_ok {w : World} {t p r h l : Nat} (k : TrC w t p r h l) : Calls Tryz.prog 21 #[.pointer (some ⟨t, 0, none⟩)] w fun e w' => e = .returned (.int .i64 (h : Int)) /\ Below w.heap.size w w' := by
 go_enter Tryz.func21, Tryz.ntmps21
 go_wp2_with fail
 refine (head_ok k).mono ?_
 rintro e w1 ⟨rfl, B1⟩
 obtain ⟨hf0, hf1, hf2⟩ := hfield (r : Int) (h : Int) (l : Int) w1
 go_wp2
 go_ret
 exact ⟨rfl, B1⟩
theorem root_ok {w : World} {t p r h l : Nat} (k : TrC w t p r h l) : Calls Tryz.prog 55 #[.pointer (some ⟨t, 0, none⟩)] w fun e w' => e = .returned (.int .i64 (r : Int)) /\ Below w.heap.size w w' := by
 go_enter Tryz.func55, Tryz.ntmps55
 go_wp2_with fail
 refine (head_ok k).mono ?_
 rintro e w1 ⟨rfl, B1⟩
 obtain ⟨hf0, hf1, hf2⟩ := hfield (r : Int) (h : Int) (l : Int) w1
 go_wp2
 go_ret
 exact ⟨rfl, B1⟩
end Go.Proofs.YtpcmiholbcmmjaaGreat
namespace Go.Proofs.YtpcmiholbcmmjaaGreat
open Go.RowKit
open L4 (Ar ArP Abs arV nv)
def Got (w : World) (nd : L5.No) (v : Value) (w' : World) : Prop := ∃ a c a' c', v = L5.nodeV nd a c a' c' /\ w'.ownsRow w.heap.size 9 1 (.slice a nd.recs.length c) nd.recs.length (L5.svs nd.recs) /\ w'.ownsRow w.heap.size 3 1 (.slice a' nd.kids.length c') nd.kids.length (L5.ivs nd.kids) /\ Below w.heap.size w w'
theorem owns_weak {b b' : Nat} {W : World} {e : TypeId} {v : Value} {n : Nat} {xs : List Value} (h : W.ownsRow b e 1 v n xs) (hb : b' <= b) : W.ownsRow b' e 1 v n xs := L5.owns_base h hb
theorem read_ok {s : Ar} {w : World} {t r h l : Nat} {nd : L5.No} {n : Nat} (hA : ArP s w) (ho : s.abs.Ok) (ht : TrC w t s.p r h l) (hn : s.abs.at (n : Int) = some (L5.pageL nd.toNd)) (hs : nd.shaped = true) (hz : nd.size <= 1024) :
 Calls Tryz.prog 86 #[.pointer (some ⟨t, 0, none⟩), .int .i64 (n : Int), .bool nd.leaf] w fun e w' => ∃ v, e = .returned (.tuple #[v, .int .i64 0]) /\ Got w nd v w' := by
 obtain ⟨c0, c1, c2, c3, ct, cf⟩ := ht.cells
 have HT := thid ht
 have HA1 := thid (L4.arSt.below hA (tbelow w (.cells #[.bool false, .slice none 0 0, .slice none 0 0] 90)))
 have HZ := thid (L5.Dz.new w)
 have HL := thid (L4.load_blk HA1.out ho hn)
 clear hA ho ht hn HA1
 go_enter Tryz.func86, Tryz.ntmps86
 go_wp2_with fail
 refine HL.out.mono ?_
 rintro e w2 ⟨rfl, hp, B2⟩
 have HK : Hid (L5.RBlk w2 (w.alloc (.cells #[.bool false, .slice none 0 0, .slice none 0 0] 90)).heap.size (L5.pageL nd.toNd)) := hp
 have HZ2 := thid (HZ.out.on B2)
 have hsz : (w.alloc (.cells #[.bool false, .slice none 0 0, .slice none 0 0] 90)).heap.size = w.heap.size + 1 := by simp
 rw [hsz] at HK
 clear HL HZ hp B2 c0 c1 c2 c3 ct cf HT hsz
 go_wp2_with fail
 refine (L5.decode_page HK.out hs hz).mono ?_
 rintro e w3 ⟨a, c, a', c', rfl, o1, o2, B3⟩
 have HZ3 := thid (HZ2.out.on B3)
 have HO1 := thid (owns_weak o1 HZ2.out.below.size)
 have HO2 := thid (owns_weak o2 HZ2.out.below.size)
 clear HZ2 HK o1 o2 B3
 have HB4 := thid (tbelow w3 (.cells #[.bool nd.leaf, .slice a nd.recs.length c, .slice a' nd.kids.length c'] 90))
 have HZ4 := thid (HZ3.out.on HB4.out)
 have HP1 := thid (L5.owns_below HO1.out HB4.out)
 have HP2 := thid (L5.owns_below HO2.out HB4.out)
 have z0 := (L5.node_cells HZ4.out.z).1
 have z1 := (L5.node_cells HZ4.out.z).2.1
 have z2 := (L5.node_cells HZ4.out.z).2.2
 have zf : ∀ i, (w3.alloc (.cells #[.bool nd.leaf, .slice a nd.recs.length c, .slice a' nd.kids.length c'] 90)).frozen? ⟨w.heap.size, i, none⟩ = false := fun i => frozen_of_row _ _ _ _ _ HZ4.out.z
 have n0 := (L5.box_cells w3 (.bool nd.leaf) (.slice a nd.recs.length c) (.slice a' nd.kids.length c') 90).1
 have n1 := (L5.box_cells w3 (.bool nd.leaf) (.slice a nd.recs.length c) (.slice a' nd.kids.length c') 90).2.1
 have n2 := (L5.box_cells w3 (.bool nd.leaf) (.slice a nd.recs.length c) (.slice a' nd.kids.length c') 90).2.2
 clear HZ3 HO1 HO2 HB4
 unfold L5.nodeV
 go_wp2_with fail
 refine L5.to_letter (show L5.RRes w (.bool nd.leaf) (.slice a nd.recs.length c) (.slice a' nd.kids.length c') nd.recs.length (L5.svs nd.recs) nd.kids.length (L5.ivs nd.kids) _ from ⟨HZ4.out.out (.bool nd.leaf) (.slice a nd.recs.length c) (.slice a' nd.kids.length c'), L5.owns_put3 HP1.out (by decide) HZ4.out.z _ _ _, L5.owns_put3 HP2.out (by decide) HZ4.out.z _ _ _⟩) ?_
 clear z0 z1 z2 zf n0 n1 n2 HZ4 HP1 HP2
 intro Wf hF
 obtain ⟨⟨g0, g1, g2, hB⟩, r1, r2⟩ := hF
 refine bodyPost_ret (v := .tuple #[.agg #[.bool nd.leaf, .slice a nd.recs.length c, .slice a' nd.kids.length c'], .int .i64 0]) ?_ rfl ⟨_, rfl, a, c, a', c', rfl, r1, r2, hB⟩
 simp [results, Tryz.results86, go_sem, g0, g1, g2]
theorem load_ok {s : Ar} {w : World} {t r h l : Nat} {nd : L5.No} {n : Nat} (hA : ArP s w) (ho : s.abs.Ok) (ht : TrC w t s.p r h l) (hn : s.abs.at (n : Int) = some (L5.pageL nd.toNd)) (hs : nd.shaped = true) (hz : nd.size <= 1024) :
 Calls Tryz.prog 76 #[.pointer (some ⟨t, 0, none⟩), .int .i64 (n : Int), .bool nd.leaf] w fun e w' => ∃ v, e = .returned v /\ Got w nd v w' := by
 have HB := thid (tbelow w (.cells #[.bool false, .slice none 0 0, .slice none 0 0] 90))
 have HL2 := thid (read_ok (L4.arSt.below hA HB.out) ho (ht.on HB.out) hn hs hz)
 have HZ := thid (L5.Dz.new w)
 clear hA ho ht hn
 go_enter Tryz.func76, Tryz.ntmps76
 go_wp2_with fail
 refine HL2.out.mono ?_
 rintro e w2 ⟨v, rfl, a, c, a', c', rfl, o1, o2, B2⟩
 have HZ2 := thid (HZ.out.on B2)
 have HO1 := thid (owns_weak o1 HB.out.size)
 have HO2 := thid (owns_weak o2 HB.out.size)
 clear HL2 HZ HB o1 o2 B2
 have HB4 := thid (tbelow w2 (.cells #[.bool nd.leaf, .slice a nd.recs.length c, .slice a' nd.kids.length c'] 90))
 have HZ4 := thid (HZ2.out.on HB4.out)
 have HP1 := thid (L5.owns_below HO1.out HB4.out)
 have HP2 := thid (L5.owns_below HO2.out HB4.out)
 have z0 := (L5.node_cells HZ4.out.z).1
 have z1 := (L5.node_cells HZ4.out.z).2.1
 have z2 := (L5.node_cells HZ4.out.z).2.2
 have zf : ∀ i, (w2.alloc (.cells #[.bool nd.leaf, .slice a nd.recs.length c, .slice a' nd.kids.length c'] 90)).frozen? ⟨w.heap.size, i, none⟩ = false := fun i => frozen_of_row _ _ _ _ _ HZ4.out.z
 have n0 := (L5.box_cells w2 (.bool nd.leaf) (.slice a nd.recs.length c) (.slice a' nd.kids.length c') 90).1
 have n1 := (L5.box_cells w2 (.bool nd.leaf) (.slice a nd.recs.length c) (.slice a' nd.kids.length c') 90).2.1
 have n2 := (L5.box_cells w2 (.bool nd.leaf) (.slice a nd.recs.length c) (.slice a' nd.kids.length c') 90).2.2
 clear HZ2 HO1 HO2 HB4
 unfold L5.nodeV
 go_wp2_with (go_at_call 74; refine (L1.check_ok _).mono ?_; rintro e w3 ⟨rfl, rfl⟩)
 refine L5.to_letter (show L5.RRes w (.bool nd.leaf) (.slice a nd.recs.length c) (.slice a' nd.kids.length c') nd.recs.length (L5.svs nd.recs) nd.kids.length (L5.ivs nd.kids) _ from ⟨HZ4.out.out (.bool nd.leaf) (.slice a nd.recs.length c) (.slice a' nd.kids.length c'), L5.owns_put3 HP1.out (by decide) HZ4.out.z _ _ _, L5.owns_put3 HP2.out (by decide) HZ4.out.z _ _ _⟩) ?_
 clear z0 z1 z2 zf n0 n1 n2 HZ4 HP1 HP2
 intro Wf hF
 obtain ⟨⟨g0, g1, g2, hB⟩, r1, r2⟩ := hF
 refine bodyPost_ret (v := .agg #[.bool nd.leaf, .slice a nd.recs.length c, .slice a' nd.kids.length c']) ?_ rfl ⟨_, rfl, a, c, a', c', rfl, r1, r2, hB⟩
 simp [results, Tryz.results76, go_sem, g0, g1, g2]
end Go.Proofs.YtpcmiholbcmmjaaGreat
namespace Go.Proofs.YtpcmiholbcmmjaaGreat
open Go.RowKit
def ov (L : List Value) (o : Nat) (t : List Value) : List Value := L.take o ++ t ++ L.drop (o + t.length)
theorem ov_nil (L : List Value) (o : Nat) : ov L o [] = L := by simp [ov]
theorem ov_length (L : List Value) (o : Nat) (t : List Value) (h : o + t.length <= L.length) : (ov L o t).length = L.length := by
 unfold ov; simp; omega
theorem ov_cons (L : List Value) (o : Nat) (x : Value) (t : List Value) (h : o + (t.length + 1) <= L.length) : ov (L.set o x) (o + 1) t = ov L o (x :: t) := by
 unfold ov
 have e1 : (L.set o x).take (o + 1) = L.take o ++ [x] := by
  rw [List.take_succ_eq_append_getElem (by simp; omega), List.take_set_of_le (Nat.le_refl _)]
  simp
 have e2 : (L.set o x).drop (o + 1 + t.length) = L.drop (o + (x :: t).length) := by
  rw [List.drop_set_of_lt (by omega)]
  congr 1
  simp; omega
 rw [e1, e2]
 simp
theorem setCells_blk {b : Nat} {tag : TypeId} : ∀ (t : List Value) (o : Nat) (W : World) (L : List Value), W.heap[b]? = some (.cells L.toArray tag (0, 0)) -> o + t.length <= L.length -> (W.setCells b o t).heap[b]? = some (.cells (ov L o t).toArray tag (0, 0))
 | [], o, W, L, h, _ => by rw [ov_nil]; exact h
 | x :: t, o, W, L, h, hl => by
  rw [<- ov_cons L o x t (by simpa using hl)]
  refine setCells_blk t (o + 1) (W.setCell ⟨b, o, none⟩ x) (L.set o x) ?_ (by simp at hl ⊢; omega)
  rw [Go.heap_setCell_same W b o _ _ _ h, List.setIfInBounds_toArray]
theorem setCells_grown (b : Nat) : ∀ (t : List Value) (o : Nat) (W W0 : World), W0.grownBy W (some b) -> W0.grownBy (W.setCells b o t) (some b)
 | [], _, _, _, h => h
 | x :: t, o, W, W0, h => setCells_grown b t (o + 1) (W.setCell ⟨b, o, none⟩ x) W0 ⟨h.os, h.tape, h.output, by simpa [World.setCell] using h.size, fun k hk hne => by
  rw [heap_setCell_other _ _ _ _ (show k ≠ b from fun e => hne (by rw [e]))]
  exact h.block k hk hne⟩
theorem grown_refl (W : World) (r : Option Nat) : W.grownBy W r := ⟨rfl, rfl, rfl, Nat.le_refl _, fun _ _ _ => rfl⟩
theorem grown_drew {W W' : World} {r : Option Nat} (h : W.grownBy W' r) : W.grownBy W'.drew r := ⟨h.os, h.tape, h.output, h.size, h.block⟩
theorem grown_alloc {W W' : World} {r : Option Nat} (h : W.grownBy W' r) (o : Obj) : W.grownBy (W'.alloc o) r := by
 have g := World.grownBy_alloc W' o r
 exact ⟨g.os.trans h.os, g.tape.trans h.tape, g.output.trans h.output, Nat.le_trans h.size g.size, fun k hk hne => (g.block k (Nat.lt_of_lt_of_le hk h.size) hne).trans (h.block k hk hne)⟩
theorem own_new (w : World) (base : Nat) (hbase : base <= w.heap.size) (e : TypeId) (z : Array Value) (hz : z.size = 1) (xs : List Value) (k cap : Nat) (hk : xs.length = k) (hc : k <= cap) (hm : cap <= maxLen) :
 (w.alloc (.cells (xs.toArray ++ Builtin.zeroCells z (cap - k)) e)).ownsRow base e 1 (.slice (some ⟨w.heap.size, 0, none⟩) k cap) k xs := by
 refine ⟨by omega, .inr ⟨w.heap.size, cap, _, rfl, hbase, heap_alloc_new w _, hc, hm, ?_, ?_⟩⟩
 · simp only [Array.size_append, List.size_toArray, size_zeroCells, hz, hk]
   omega
 · simp only [Array.toList_append, Nat.mul_one]
   rw [<- hk]
   exact List.take_left
theorem own_row {W : World} {base g cap n : Nat} {e : TypeId} {L xs : List Value} (hb : base <= g) (h : W.heap[g]? = some (.cells L.toArray e (0, 0))) (hn : n <= cap) (hm : cap <= maxLen) (hL : L.length = cap) (hx : L.take n = xs) : W.ownsRow base e 1 (.slice (some ⟨g, 0, none⟩) n cap) n xs :=
 ⟨by rw [<- hx, List.length_take]; omega, .inr ⟨g, cap, _, rfl, hb, h, hn, hm, by simp [hL], by simpa using hx⟩⟩
end Go.Proofs.YtpcmiholbcmmjaaGreat
namespace Go.Proofs.YtpcmiholbcmmjaaGreat
open Go.RowKit
open L4 (Ar ArP Abs arV nv)
def EdC (w : World) (x t r h l : Nat) (tk ld gn : Value) : Prop := w.heap[x]? = some (.cells #[.pointer (some ⟨t, 0, none⟩), .int .i64 (r : Int), .int .i64 (h : Int), .int .i64 (l : Int), tk, ld, gn] 87 (0, 0))
theorem EdC.cells {w : World} {x t r h l : Nat} {tk ld gn : Value} (k : EdC w x t r h l tk ld gn) : w.cell? ⟨x, 0, none⟩ = some (.pointer (some ⟨t, 0, none⟩)) /\ w.cell? ⟨x, 1, none⟩ = some (.int .i64 (r : Int)) /\ w.cell? ⟨x, 2, none⟩ = some (.int .i64 (h : Int)) /\ w.cell? ⟨x, 3, none⟩ = some (.int .i64 (l : Int)) /\ w.cell? ⟨x, 4, none⟩ = some tk /\ w.cell? ⟨x, 5, none⟩ = some ld /\ w.cell? ⟨x, 6, none⟩ = some gn /\ x < w.heap.size /\ ∀ i, w.frozen? ⟨x, i, none⟩ = false := by
 refine ⟨?_, ?_, ?_, ?_, ?_, ?_, ?_, (Array.getElem?_eq_some_iff.1 k).1, fun i => frozen_of_row _ _ _ _ _ k⟩ <;> rw [cell_of_row _ _ _ _ _ _ k] <;> rfl
theorem EdC.on {w w' : World} {x t r h l : Nat} {tk ld gn : Value} (k : EdC w x t r h l tk ld gn) (hb : Below w.heap.size w w') : EdC w' x t r h l tk ld gn := (hb.block _ (Array.getElem?_eq_some_iff.1 k).1).trans k
structure Lay where
 at_ : Nat
 n : L5.No
 vr : Value
 vk : Value
 kid : Nat
def Lay.cells (y : Lay) : List Value := [nv y.at_, .bool y.n.leaf, y.vr, y.vk, nv y.kid]
structure Es (B : Nat) (s : Ar) (t x r h l xr xh xl : Nat) (tk ld gn : Value) (T : List Nat) (Ld : List Lay) (G : List Nat) (w : World) : Prop where
 ar : ArP s w
 tr : TrC w t s.p r h l
 ed : EdC w x t xr xh xl tk ld gn
 bs : B <= w.heap.size
 rt : w.ownsRow B 3 1 tk T.length (T.map nv)
 rl : w.ownsRow B 100 5 ld Ld.length (Ld.flatMap Lay.cells)
 rg : w.ownsRow B 3 1 gn G.length (G.map nv)
 rr : ∀ y ∈ Ld, w.ownsRow B 9 1 y.vr y.n.recs.length (L5.svs y.n.recs)
 rk : ∀ y ∈ Ld, w.ownsRow B 3 1 y.vk y.n.kids.length (L5.ivs y.n.kids)
 a1 : ∀ k, s.own k -> tk.ownBlock ≠ some k /\ gn.ownBlock ≠ some k /\ ∀ y ∈ Ld, y.vk.ownBlock ≠ some k
 a2 : ∀ k, tk.ownBlock = some k -> gn.ownBlock ≠ some k /\ ∀ y ∈ Ld, y.vk.ownBlock ≠ some k
 a3 : ∀ k, gn.ownBlock = some k -> ∀ y ∈ Ld, y.vk.ownBlock ≠ some k
structure Stp (B : Nat) (s s' : Ar) (t x : Nat) (w w' : World) : Prop where
 only : Only (fun k => s.own k \/ k = t \/ k = x \/ B <= k) w w'
 own : ∀ k, s'.own k -> s.own k \/ B <= k
theorem Stp.refl (B : Nat) (s : Ar) (t x : Nat) (w : World) : Stp B s s t x w w := ⟨Only.refl _ _, fun _ h => Or.inl h⟩
theorem Stp.trans {B : Nat} {s s' s'' : Ar} {t x : Nat} {w w1 w2 : World} (h : Stp B s s' t x w w1) (h' : Stp B s' s'' t x w1 w2) : Stp B s s'' t x w w2 := by
 have z := h.only.size
 refine ⟨⟨h'.only.os.trans h.only.os, h'.only.tape.trans h.only.tape, h'.only.output.trans h.only.output, Nat.le_trans z h'.only.size, fun k hk hs => ?_⟩, fun k hk => ?_⟩
 · rw [h'.only.block k (by omega) fun y => by
    rcases y with y | y
    · rcases h.own k y with y | y
      · exact hs (Or.inl y)
      · exact hs (Or.inr (Or.inr (Or.inr y)))
    · exact hs (Or.inr y)]
   exact h.only.block k hk hs
 · rcases h'.own k hk with y | y
   · exact h.own k y
   · exact Or.inr y
theorem Stp.below {B : Nat} {s : Ar} {t x : Nat} {w w' : World} (hb : Below w.heap.size w w') : Stp B s s t x w w' := ⟨Only.of_below hb, fun _ h => Or.inl h⟩
theorem Stp.moves {B : Nat} {s s' : Ar} {t x : Nat} {w w' : World} (hB : B <= w.heap.size) (hm : L4.Moves L4.arSt s s' w w') : Stp B s s' t x w w' :=
 ⟨hm.only.weaken fun _ _ y => Or.inl y, fun k y => (hm.own k y).imp id fun z => Nat.le_trans hB z⟩
theorem not_own {s : Ar} {w : World} (h : ArP s w) {k : Nat} {cs : Array Value} {e : TypeId} (hk : w.heap[k]? = some (.cells cs e (0, 0))) (h1 : e ≠ 80) (h2 : e ≠ 117) (h3 : e ≠ 3) : ¬ s.own k := fun x => by
 obtain ⟨cur, t, e1, e2⟩ := h.tag x
 rw [hk] at e1
 cases e1
 rcases e2 with e2 | e2 | e2
 · exact h1 e2
 · exact h2 e2
 · exact h3 e2
theorem row_not_own {s : Ar} {w : World} (h : ArP s w) {B : Nat} {e : TypeId} {m : Nat} {v : Value} {n : Nat} {xs : List Value} (hr : w.ownsRow B e m v n xs) (h1 : e ≠ 80) (h2 : e ≠ 117) (h3 : e ≠ 3) {k : Nat} (hk : v.ownBlock = some k) : ¬ s.own k := by
 obtain ⟨cur, hc⟩ := L4.owns_tag hr hk
 exact not_own h hc h1 h2 h3
theorem Es.below {B : Nat} {s : Ar} {t x r h l xr xh xl : Nat} {tk ld gn : Value} {T : List Nat} {Ld : List Lay} {G : List Nat} {w w' : World} (k : Es B s t x r h l xr xh xl tk ld gn T Ld G w) (hb : Below w.heap.size w w') : Es B s t x r h l xr xh xl tk ld gn T Ld G w' :=
 have row : ∀ {e : TypeId} {m : Nat} {v : Value} {n : Nat} {xs : List Value}, w.ownsRow B e m v n xs -> w'.ownsRow B e m v n xs := fun hr => L5.owns_of_block hr fun q hq => hb.block q (hr.lt q hq).2
 ⟨L4.arSt.below k.ar hb, k.tr.on hb, k.ed.on hb, Nat.le_trans k.bs hb.size, row k.rt, row k.rl, row k.rg, fun y hy => row (k.rr y hy), fun y hy => row (k.rk y hy), k.a1, k.a2, k.a3⟩
theorem Es.moves {B : Nat} {s s' : Ar} {t x r h l xr xh xl : Nat} {tk ld gn : Value} {T : List Nat} {Ld : List Lay} {G : List Nat} {w w' : World} (k : Es B s t x r h l xr xh xl tk ld gn T Ld G w) (hA : ArP s' w') (hp : s'.p = s.p) (hm : L4.Moves L4.arSt s s' w w') : Es B s' t x r h l xr xh xl tk ld gn T Ld G w' := by
 have blk : ∀ {q : Nat}, q < w.heap.size -> ¬ s.own q -> w'.heap[q]? = w.heap[q]? := fun hq hn => hm.only.block _ hq hn
 have row : ∀ {e : TypeId} {m : Nat} {v : Value} {n : Nat} {xs : List Value}, w.ownsRow B e m v n xs -> (∀ q, v.ownBlock = some q -> ¬ s.own q) -> w'.ownsRow B e m v n xs := fun hr hn => L5.owns_of_block hr fun q hq => blk (hr.lt q hq).2 (hn q hq)
 have nt : ∀ q, s'.own q -> s.own q \/ w.heap.size <= q := hm.own
 refine ⟨hA, ⟨?_⟩, (blk (Array.getElem?_eq_some_iff.1 k.ed).1 (not_own k.ar k.ed (by decide) (by decide) (by decide))).trans k.ed, Nat.le_trans k.bs hm.only.size, row k.rt fun q hq x => (k.a1 q x).1 hq, row k.rl fun q hq => row_not_own k.ar k.rl (by decide) (by decide) (by decide) hq, row k.rg fun q hq x => (k.a1 q x).2.1 hq, fun y hy => row (k.rr y hy) fun q hq => row_not_own k.ar (k.rr y hy) (by decide) (by decide) (by decide) hq, fun y hy => row (k.rk y hy) fun q hq x => (k.a1 q x).2.2 y hy hq, ?_, k.a2, k.a3⟩
 · rw [hp]
   exact (blk (Array.getElem?_eq_some_iff.1 k.tr.blk).1 (not_own k.ar k.tr.blk (by decide) (by decide) (by decide))).trans k.tr.blk
 · intro q hq
   rcases nt q hq with hq | hq
   · exact k.a1 q hq
   · exact ⟨fun e => by have := (k.rt.lt q e).2; omega, fun e => by have := (k.rg.lt q e).2; omega, fun y hy e => by have := ((k.rk y hy).lt q e).2; omega⟩
theorem tag_ne {w : World} {q q' : Nat} {c c' : Array Value} {e e' : TypeId} (h : w.heap[q]? = some (.cells c e (0, 0))) (h' : w.heap[q']? = some (.cells c' e' (0, 0))) (he : e ≠ e') : q ≠ q' := fun x => by
 subst x
 rw [h] at h'
 cases h'
 exact he rfl
theorem row_ne {w : World} {B : Nat} {q : Nat} {c : Array Value} {e e' : TypeId} {m n : Nat} {v : Value} {xs : List Value} (h : w.heap[q]? = some (.cells c e (0, 0))) (h' : w.ownsRow B e' m v n xs) (he : e ≠ e') : v.ownBlock ≠ some q := fun x => by
 obtain ⟨cur, hc⟩ := L4.owns_tag h' x
 exact tag_ne h hc he rfl
theorem rows_ne {w : World} {B B' : Nat} {e e' : TypeId} {m m' n n' : Nat} {v v' : Value} {xs xs' : List Value} (h : w.ownsRow B e m v n xs) (h' : w.ownsRow B' e' m' v' n' xs') (he : e ≠ e') (q : Nat) (hq : v.ownBlock = some q) : v'.ownBlock ≠ some q := by
 obtain ⟨cur, hc⟩ := L4.owns_tag h hq
 exact row_ne hc h' he
theorem core {w w1 w2 : World} {v0 v' : Value} {x i : Nat} (hb : Below w.heap.size w w1) (hg : w1.grownBy w2 v0.ownBlock) : ∀ q, q < w.heap.size -> v0.ownBlock ≠ some q -> q ≠ x -> (w2.setCell ⟨x, i, none⟩ v').heap[q]? = w.heap[q]? := fun q hq hn hx => by
 rw [heap_setCell_other _ _ _ _ hx, hg.block q (Nat.lt_of_lt_of_le hq hb.size) (fun e => hn e.symm), hb.block q hq]
theorem core_only {w w1 w2 : World} {v0 v' : Value} {x i B : Nat} {s : Ar} {t : Nat} (hb : Below w.heap.size w w1) (hg : w1.grownBy w2 v0.ownBlock) (h0 : ∀ q, v0.ownBlock = some q -> B <= q) : Stp B s s t x w (w2.setCell ⟨x, i, none⟩ v') :=
 ⟨⟨hg.os.trans hb.os, hg.tape.trans hb.tape, hg.output.trans hb.output, by have := hg.size; have := hb.size; simp [World.setCell]; omega, fun q hq hn => core hb hg q hq (fun e => hn (Or.inr (Or.inr (Or.inr (h0 q e))))) (fun e => hn (Or.inr (Or.inr (Or.inl e))))⟩, fun _ h => Or.inl h⟩
theorem core_fine {w w1 w2 : World} {v0 v' : Value} {x i : Nat} (hb : Below w.heap.size w w1) (hg : w1.grownBy w2 v0.ownBlock) : Only (fun k => k = x \/ v0.ownBlock = some k) w (w2.setCell ⟨x, i, none⟩ v') :=
 ⟨hg.os.trans hb.os, hg.tape.trans hb.tape, hg.output.trans hb.output, by have := hg.size; have := hb.size; simp [World.setCell]; omega, fun q hq hn => core hb hg q hq (fun e => hn (Or.inr e)) (fun e => hn (Or.inl e))⟩
theorem core_ar {s : Ar} {w W : World} {v0 : Value} {x : Nat} {e0 : TypeId} {B m n : Nat} {xs : List Value} {cx : Array Value} (hA : ArP s w) (h0 : w.ownsRow B e0 m v0 n xs) (hx : w.heap[x]? = some (.cells cx 87 (0, 0))) (hc : ∀ q, q < w.heap.size -> v0.ownBlock ≠ some q -> q ≠ x -> W.heap[q]? = w.heap[q]?) (hn : ∀ q, s.own q -> v0.ownBlock ≠ some q) (he : e0 ≠ 130) : ArP s W :=
 L4.arSt.keep s w W hA (fun q hq => hc q (L4.arSt.lt s w q hA hq) (hn q hq) (fun e => not_own hA hx (by decide) (by decide) (by decide) (e ▸ hq))) fun q cs hq => hc q (Array.getElem?_eq_some_iff.1 hq).1 (row_ne hq h0 (fun e => he e.symm)) (tag_ne hq hx (by decide))
theorem Es.took {B : Nat} {s : Ar} {t x r h l xr xh xl : Nat} {tk ld gn : Value} {T : List Nat} {Ld : List Lay} {G : List Nat} {w w1 w2 : World} {v' : Value} {nx m : Nat} (k : Es B s t x r h l xr xh xl tk ld gn T Ld G w) (hb : Below w.heap.size w w1) (hg : w1.grownBy w2 tk.ownBlock) (hm : m = T.length + 1) (ho : w2.ownsRow B 3 1 v' m (T.map nv ++ [nv nx])) (hat : ∀ q, v'.ownBlock = some q -> tk.ownBlock = some q \/ w1.heap.size <= q) :
 Es B s t x r h l xr xh xl v' ld gn (T ++ [nx]) Ld G (w2.setCell ⟨x, 4, none⟩ v') /\ Stp B s s t x w (w2.setCell ⟨x, 4, none⟩ v') := by
 subst hm
 have hc := core (v' := v') (x := x) (i := 4) hb hg
 have hsz : (w2.setCell ⟨x, 4, none⟩ v').heap.size = w2.heap.size := by simp [World.setCell]
 have hle : w.heap.size <= w2.heap.size := Nat.le_trans hb.size hg.size
 have xlt := (Array.getElem?_eq_some_iff.1 k.ed).1
 have hx2 : w2.heap[x]? = some (.cells #[.pointer (some ⟨t, 0, none⟩), .int .i64 (xr : Int), .int .i64 (xh : Int), .int .i64 (xl : Int), tk, ld, gn] 87 (0, 0)) := by
  rw [hg.block x (Nat.lt_of_lt_of_le xlt hb.size) (fun e => row_ne k.ed k.rt (by decide) e.symm), hb.block x xlt]
  exact k.ed
 have new : ∀ q, v'.ownBlock = some q -> tk.ownBlock = some q \/ w.heap.size <= q := fun q hq => (hat q hq).imp id fun y => Nat.le_trans hb.size y
 have row : ∀ {e : TypeId} {m : Nat} {v : Value} {n : Nat} {xs : List Value}, w.ownsRow B e m v n xs -> e ≠ 87 -> (∀ q, v.ownBlock = some q -> tk.ownBlock ≠ some q) -> (w2.setCell ⟨x, 4, none⟩ v').ownsRow B e m v n xs := fun hr he hn => L5.owns_of_block hr fun q hq => hc q (hr.lt q hq).2 (hn q hq) (fun e => row_ne k.ed hr (fun e => he e.symm) (e ▸ hq))
 refine ⟨⟨core_ar k.ar k.rt k.ed hc (fun q hq => (k.a1 q hq).1) (by decide), ⟨?_⟩, ?_, by rw [hsz]; exact Nat.le_trans k.bs hle, ?_, row k.rl (by decide) fun q hq => rows_ne k.rl k.rt (by decide) q hq, row k.rg (by decide) fun q hq e => (k.a2 q e).1 hq, fun y hy => row (k.rr y hy) (by decide) fun q hq => rows_ne (k.rr y hy) k.rt (by decide) q hq, fun y hy => row (k.rk y hy) (by decide) fun q hq e => (k.a2 q e).2 y hy hq, fun q hq => ⟨fun e => ?_, (k.a1 q hq).2⟩, fun q hq => ?_, k.a3⟩, core_only hb hg (fun q hq => (k.rt.lt q hq).1)⟩
 · exact (hc t (Array.getElem?_eq_some_iff.1 k.tr.blk).1 (row_ne k.tr.blk k.rt (by decide)) (tag_ne k.tr.blk k.ed (by decide))).trans k.tr.blk
 · exact heap_setCell_same w2 x 4 _ _ v' hx2
 · rw [List.map_append, List.length_append]
   refine L5.owns_of_block ho fun q hq => heap_setCell_other _ _ _ _ fun e => ?_
   have e' : q = x := e
   subst e'
   exact row_ne hx2 ho (by decide) hq
 · rcases new q e with e | e
   · exact (k.a1 q hq).1 e
   · have := L4.arSt.lt s w q k.ar hq
     omega
 · rcases new q hq with e | e
   · exact k.a2 q e
   · exact ⟨fun y => by have := (k.rg.lt q y).2; omega, fun y hy z => by have := ((k.rk y hy).lt q z).2; omega⟩
theorem take_ok2 {B : Nat} {s : Ar} {t x r h l xr xh xl : Nat} {tk ld gn : Value} {T : List Nat} {Ld : List Lay} {G : List Nat} {w : World} (k : Es B s t x r h l xr xh xl tk ld gn T Ld G w) (ho : s.abs.Ok) (hl : 0 < s.abs.left) (hT : T.length <= 10000) :
 Calls Tryz.prog 42 #[.pointer (some ⟨x, 0, none⟩)] w fun e w' => e = .returned (nv s.abs.next) /\ ∃ s' tk', s'.p = s.p /\ s'.abs = s.abs.alloc /\ Es B s' t x r h l xr xh xl tk' ld gn (T ++ [s.abs.next]) Ld G w' /\ Stp B s s' t x w w' /\ Only (fun k => s.own k \/ k = x \/ tk.ownBlock = some k) w w' /\ (∀ q, tk'.ownBlock = some q -> tk.ownBlock = some q \/ w.heap.size <= q) /\ (∀ q, s'.own q -> s.own q \/ w.heap.size <= q) := by
 have HK := thid k
 have HA := thid (L4.alloc_ok k.ar ho hl)
 obtain ⟨c0, c1, c2, c3, ct, cf⟩ := k.tr.cells
 obtain ⟨d0, d1, d2, d3, d4, d5, d6, dl, df⟩ := k.ed.cells
 clear k
 go_enter Tryz.func42, Tryz.ntmps42
 go_wp2_with fail
 refine HA.out.mono ?_
 rintro e w1 ⟨rfl, s', hA', hp, hab, hm⟩
 have HK1 := thid (HK.out.moves hA' hp hm)
 have HS1 := thid (Stp.moves (t := t) (x := x) HK.out.bs hm)
 have HM := thid hm
 clear HA HK c0 c1 c2 c3 ct cf d0 d1 d2 d3 d4 d5 d6 dl df hA' hm
 obtain ⟨d0, d1, d2, d3, d4, d5, d6, dl, df⟩ := HK1.out.ed.cells
 obtain ⟨nx, hnx⟩ : ∃ nx, Hid (s.abs.next = nx) := ⟨_, rfl⟩
 rw [hnx.out]
 unfold nv
 go_wp2_with (first
  | (go_at_call 74; refine (L1.check_ok _).mono ?_; rintro e w3 ⟨rfl, rfl⟩)
  | (at_builtin
     revert HK1)
  | fail)
 intro HK1
 have HB4 := thid (tbelow w3 (.cells #[.int .i64 (nx : Int)] 3))
 have HK4 := thid (HK1.out.below HB4.out)
 refine L5.append_row (z := .int .i64 0) (by_ := 8) Tryz.underlying49 (by kernel_rfl) (by decide) rfl B HK4.out.bs rfl _ _ rfl tk T.length (T.map nv) [nv nx] rfl HK4.out.rt (by omega) 1 (by omega) ⟨w3.heap.size, 0, none⟩ 1 rfl rfl (L5.one_int w3 _ _) (fun u hu => by simp at hu; subst hu; rfl) ?_
 intro v' w5 hown hg hat
 obtain ⟨ad, cp, rfl⟩ := L5.owns_at hown
 obtain ⟨HE, HS⟩ := HK1.out.took HB4.out hg rfl hown hat
 have HE5 := thid HE
 have HS5 := thid (HS1.out.trans HS)
 have HF5 : Hid (Only (fun k => s.own k \/ k = x \/ tk.ownBlock = some k) w (w5.setCell ⟨x, 4, none⟩ (.slice ad (T.length + 1) cp))) := (HM.out.only.weaken fun _ _ y => Or.inl y).trans ((core_fine (x := x) (i := 4) (v' := .slice ad (T.length + 1) cp) HB4.out hg).weaken fun _ _ y => Or.inr y)
 have HN5 : Hid (∀ q, (Value.slice ad (T.length + 1) cp).ownBlock = some q -> tk.ownBlock = some q \/ w.heap.size <= q) := fun q hq => (hat q hq).imp id fun y => Nat.le_trans HM.out.only.size (Nat.le_trans HB4.out.size y)
 have HO5 := thid HM.out.own
 have x2 : w5.heap[x]? = some (.cells #[.pointer (some ⟨t, 0, none⟩), .int .i64 (xr : Int), .int .i64 (xh : Int), .int .i64 (xl : Int), tk, ld, gn] 87 (0, 0)) := by
  rw [hg.block x (by simp; omega) (fun e => row_ne HK1.out.ed HK1.out.rt (by decide) e.symm), HB4.out.block x dl]
  exact HK1.out.ed
 have y4 : w5.cell? ⟨x, 4, none⟩ = some tk := (EdC.cells x2).2.2.2.2.1
 have yl := (EdC.cells x2).2.2.2.2.2.2.2.1
 have yf := (EdC.cells x2).2.2.2.2.2.2.2.2
 clear d0 d1 d2 d3 d4 d5 d6 dl df HK1 HB4 HK4 HS1 HE HS hown hg hat x2 HM
 go_wp2
 go_ret
 exact ⟨by rw [hnx.out]; rfl, s', _, hp, hab, by rw [hnx.out]; exact HE5.out, HS5.out, HF5.out, HN5.out, HO5.out⟩
theorem take_ok {B : Nat} {s : Ar} {t x r h l xr xh xl : Nat} {tk ld gn : Value} {T : List Nat} {Ld : List Lay} {G : List Nat} {w : World} (k : Es B s t x r h l xr xh xl tk ld gn T Ld G w) (ho : s.abs.Ok) (hl : 0 < s.abs.left) (hT : T.length <= 10000) :
 Calls Tryz.prog 42 #[.pointer (some ⟨x, 0, none⟩)] w fun e w' => e = .returned (nv s.abs.next) /\ ∃ s' tk', s'.p = s.p /\ s'.abs = s.abs.alloc /\ Es B s' t x r h l xr xh xl tk' ld gn (T ++ [s.abs.next]) Ld G w' /\ Stp B s s' t x w w' :=
 (take_ok2 k ho hl hT).mono fun _ _ ⟨h1, s', tk', h2, h3, h4, h5, _⟩ => ⟨h1, s', tk', h2, h3, h4, h5⟩
end Go.Proofs.YtpcmiholbcmmjaaGreat
namespace Go.Proofs.YtpcmiholbcmmjaaGreat
open Go.Shelf Go.RowKit
def delS_ren : Go.Shelf.Ren := ⟨fun | 24 => 91 | n => n, fun | 24 => 33 | 9 => 9 | 3 => 3 | 4 => 4 | 0 => 0 | n => n, fun | n => n⟩
theorem delS_lays : Go.Proofs.Lays2.n24 Tryz.prog delS_ren := {
 mixed := by kernel_rfl
 f24 := Tryz.func91.trans (congrArg some (by kernel_rfl))
 t0 := Tryz.underlying0
 a0 := Tryz.isAgg0
 z0 := Tryz.sizeOf0
 v0 := Tryz.zeroValue0
 t3 := Tryz.underlying3
 a3 := Tryz.isAgg3
 z3 := Tryz.sizeOf3
 v3 := Tryz.zeroValue3
 t4 := Tryz.underlying4
 a4 := Tryz.isAgg4
 z4 := Tryz.sizeOf4
 v4 := Tryz.zeroValue4
 t9 := Tryz.underlying9
 a9 := Tryz.isAgg9
 z9 := Tryz.sizeOf9
 v9 := Tryz.zeroValue9
 t24 := Tryz.underlying33
 a24 := Tryz.isAgg33
 z24 := Tryz.sizeOf33
 v24 := Tryz.zeroValue33
 i9 := by kernel_rfl }
def delI_ren : Go.Shelf.Ren := ⟨fun | 23 => 152 | n => n, fun | 22 => 49 | 3 => 3 | 4 => 4 | 0 => 0 | n => n, fun | n => n⟩
theorem delI_lays : Go.Proofs.Lays2.n23 Tryz.prog delI_ren := {
 mixed := by kernel_rfl
 f23 := Tryz.func152.trans (congrArg some (by kernel_rfl))
 t0 := Tryz.underlying0
 a0 := Tryz.isAgg0
 z0 := Tryz.sizeOf0
 v0 := Tryz.zeroValue0
 t3 := Tryz.underlying3
 a3 := Tryz.isAgg3
 z3 := Tryz.sizeOf3
 v3 := Tryz.zeroValue3
 t4 := Tryz.underlying4
 a4 := Tryz.isAgg4
 z4 := Tryz.sizeOf4
 v4 := Tryz.zeroValue4
 t22 := Tryz.underlying49
 a22 := Tryz.isAgg49
 z22 := Tryz.sizeOf49
 v22 := Tryz.zeroValue49
 i3 := by kernel_rfl }
theorem del_row {w w' : World} {base g cap n i : Nat} {e : TypeId} {cur : Array Value} {xs ys : List Value} {z : Value} (hbg : base <= g) (hg : w.heap[g]? = some (.cells cur e (0, 0))) (hnc : n <= cap) (hcm : cap <= maxLen) (hcs : cur.size = cap) (hxl : xs.length = n) (hi : i < n) (q : Nat) (hys : ys = xs.take i ++ xs.drop (i + 1) ++ [z]) (hw : w' = (w.drewN q).setCells g 0 ys) :
 w'.ownsRow base e 1 (.slice (some ⟨g, 0, none⟩) (n - 1) cap) (n - 1) (xs.take i ++ xs.drop (i + 1)) /\ w.grownBy w' (some g) := by
 have hyl : ys.length = n := by rw [hys]; simp; omega
 have hg' : (w.drewN q).heap[g]? = some (.cells cur.toList.toArray e (0, 0)) := by simpa using hg
 have hb := setCells_blk ys 0 (w.drewN q) cur.toList hg' (by rw [hyl, Array.length_toList]; omega)
 have hd : w.grownBy (w.drewN q) (some g) := ⟨rfl, rfl, rfl, Nat.le_refl _, fun _ _ _ => rfl⟩
 rw [hw]
 refine ⟨own_row hbg hb (by omega) hcm (by rw [ov_length _ _ _ (by rw [hyl, Array.length_toList]; omega), Array.length_toList]; omega) ?_, setCells_grown g _ _ _ _ hd⟩
 unfold ov
 rw [List.take_zero, List.nil_append, hys, List.append_assoc]
 have hl : (xs.take i ++ xs.drop (i + 1)).length = n - 1 := by simp; omega
 rw [<- hl]
 exact List.take_left
theorem delete_str {w : World} {base n i : Nat} {v : Value} {l : List ByteArray} (h : w.ownsRow base 9 1 v n (l.map Value.string)) (hi : i < n) :
 Calls Tryz.prog 91 #[v, .int .i64 (i : Int), .int .i64 ((i + 1 : Nat) : Int)] w fun e w' => ∃ v', e = .returned v' /\ w'.ownsRow base 9 1 v' (n - 1) ((l.take i ++ l.drop (i + 1)).map Value.string) /\ w.grownBy w' v.ownBlock /\ v'.ownBlock = v.ownBlock := by
 have hxl : l.length = n := by have := h.1; simpa using this
 rcases h.2 with ⟨rfl, rfl⟩ | ⟨g, cap, cur, rfl, hbg, hg, hnc, hcm, hcs, htake⟩
 · omega
 have hcell : ∀ j, j < n -> w.cell? ⟨g, 0 + j, none⟩ = some (.string (l.getD j ⟨#[]⟩)) := fun j hj => by
  rw [cell_of_row _ _ _ _ _ _ hg, Nat.zero_add]
  have e : cur.toList[j]? = (l.map Value.string)[j]? := by rw [<- htake, List.getElem?_take, if_pos (by omega)]
  rw [<- Array.getElem?_toList, e, List.getElem?_map, List.getElem?_eq_getElem (by omega), List.getD_eq_getElem?_getD, List.getElem?_eq_getElem (by omega)]
  rfl
 refine (Any.slices_Delete_string_cells delS_lays g 0 n cap i (i + 1) (fun j => l.getD j ⟨#[]⟩) w hnc (by unfold maxLen at hcm; omega) (by omega) (by omega) hcell (fun j _ => frozen_of_row _ _ _ _ _ hg)).mono ?_
 rintro e w' ⟨rfl, q, hw⟩
 have hst : (Lib.strsOf (fun j => l.getD j ⟨#[]⟩) n).map Go.Proofs.encStr = l.map Value.string := by
  apply List.ext_getElem?
  intro j
  unfold Lib.strsOf
  rw [List.getElem?_map, List.getElem?_map, List.getElem?_map]
  by_cases hj : j < n
  · rw [List.getElem?_range hj, List.getElem?_eq_getElem (by omega)]
    simp [Go.Proofs.encStr, List.getD_eq_getElem?_getD, List.getElem?_eq_getElem (show j < l.length by omega)]
  · rw [List.getElem?_eq_none (by simpa using hj), List.getElem?_eq_none (by omega)]
    rfl
 obtain ⟨h1, h2⟩ := del_row (i := i) hbg hg hnc hcm (by omega) (xs := l.map Value.string) (by simpa using hxl) hi q (z := .string ⟨#[]⟩) (by
  rw [List.map_append, List.map_append, List.map_take, List.map_drop, hst, show i + 1 - i = 1 by omega]
  rfl) hw
 refine ⟨.slice (some ⟨g, 0, none⟩) (n - 1) cap, by rw [show i + 1 - i = 1 by omega], ?_, h2, rfl⟩
 rw [List.map_append, List.map_take, List.map_drop]
 exact h1
theorem delete_int {w : World} {base n i : Nat} {v : Value} {l : List Int} (h : w.ownsRow base 3 1 v n (l.map (Value.int .i64))) (hi : i < n) :
 Calls Tryz.prog 152 #[v, .int .i64 (i : Int), .int .i64 ((i + 1 : Nat) : Int)] w fun e w' => ∃ v', e = .returned v' /\ w'.ownsRow base 3 1 v' (n - 1) ((l.take i ++ l.drop (i + 1)).map (Value.int .i64)) /\ w.grownBy w' v.ownBlock /\ v'.ownBlock = v.ownBlock := by
 have hxl : l.length = n := by have := h.1; simpa using this
 rcases h.2 with ⟨rfl, rfl⟩ | ⟨g, cap, cur, rfl, hbg, hg, hnc, hcm, hcs, htake⟩
 · omega
 have hcell : ∀ j, j < l.length -> w.cell? ⟨g, 0 + j, none⟩ = some (.int .i64 (l.getD j 0)) := fun j hj => by
  rw [cell_of_row _ _ _ _ _ _ hg, Nat.zero_add]
  have e : cur.toList[j]? = (l.map (Value.int .i64))[j]? := by rw [<- htake, List.getElem?_take, if_pos (by omega)]
  rw [<- Array.getElem?_toList, e, List.getElem?_map, List.getElem?_eq_getElem (by omega), List.getD_eq_getElem?_getD, List.getElem?_eq_getElem (by omega)]
  rfl
 refine (Any.slices_Delete_int_cells delI_lays g 0 n cap i (i + 1) l w (by omega) hnc (by unfold maxLen at hcm; omega) (by omega) (by omega) hcell (fun j _ => frozen_of_row _ _ _ _ _ hg)).mono ?_
 rintro e w' ⟨rfl, q, hw⟩
 have hln : l.take n = l := List.take_of_length_le (by omega)
 obtain ⟨h1, h2⟩ := del_row (i := i) hbg hg hnc hcm (by omega) (xs := l.map (Value.int .i64)) (by simpa using hxl) hi q (z := .int .i64 0) (by
  rw [hln, List.map_append, List.map_append, List.map_take, List.map_drop, show i + 1 - i = 1 by omega]
  rfl) hw
 refine ⟨.slice (some ⟨g, 0, none⟩) (n - 1) cap, by rw [show i + 1 - i = 1 by omega], ?_, h2, rfl⟩
 rw [List.map_append, List.map_take, List.map_drop]
 exact h1
end Go.Proofs.YtpcmiholbcmmjaaGreat
namespace Go.Proofs.YtpcmiholbcmmjaaGreat
open Go.RowKit
open L4 (Ar ArP Abs arV nv)
theorem Es.gave {B : Nat} {s : Ar} {t x r h l xr xh xl : Nat} {tk ld gn : Value} {T : List Nat} {Ld : List Lay} {G : List Nat} {w w1 w2 : World} {v' : Value} {nx m : Nat} (k : Es B s t x r h l xr xh xl tk ld gn T Ld G w) (hb : Below w.heap.size w w1) (hg : w1.grownBy w2 gn.ownBlock) (hm : m = G.length + 1) (ho : w2.ownsRow B 3 1 v' m (G.map nv ++ [nv nx])) (hat : ∀ q, v'.ownBlock = some q -> gn.ownBlock = some q \/ w1.heap.size <= q) :
 Es B s t x r h l xr xh xl tk ld v' T Ld (G ++ [nx]) (w2.setCell ⟨x, 6, none⟩ v') /\ Stp B s s t x w (w2.setCell ⟨x, 6, none⟩ v') /\ Only (fun q => q = x \/ gn.ownBlock = some q) w (w2.setCell ⟨x, 6, none⟩ v') /\ (∀ q, v'.ownBlock = some q -> gn.ownBlock = some q \/ w.heap.size <= q) := by
 subst hm
 have hc := core (v' := v') (x := x) (i := 6) hb hg
 have hsz : (w2.setCell ⟨x, 6, none⟩ v').heap.size = w2.heap.size := by simp [World.setCell]
 have hle : w.heap.size <= w2.heap.size := Nat.le_trans hb.size hg.size
 have xlt := (Array.getElem?_eq_some_iff.1 k.ed).1
 have hx2 : w2.heap[x]? = some (.cells #[.pointer (some ⟨t, 0, none⟩), .int .i64 (xr : Int), .int .i64 (xh : Int), .int .i64 (xl : Int), tk, ld, gn] 87 (0, 0)) := by
  rw [hg.block x (Nat.lt_of_lt_of_le xlt hb.size) (fun e => row_ne k.ed k.rg (by decide) e.symm), hb.block x xlt]
  exact k.ed
 have new : ∀ q, v'.ownBlock = some q -> gn.ownBlock = some q \/ w.heap.size <= q := fun q hq => (hat q hq).imp id fun y => Nat.le_trans hb.size y
 have row : ∀ {e : TypeId} {m : Nat} {v : Value} {n : Nat} {xs : List Value}, w.ownsRow B e m v n xs -> e ≠ 87 -> (∀ q, v.ownBlock = some q -> gn.ownBlock ≠ some q) -> (w2.setCell ⟨x, 6, none⟩ v').ownsRow B e m v n xs := fun hr he hn => L5.owns_of_block hr fun q hq => hc q (hr.lt q hq).2 (hn q hq) (fun e => row_ne k.ed hr (fun e => he e.symm) (e ▸ hq))
 refine ⟨⟨core_ar k.ar k.rg k.ed hc (fun q hq => (k.a1 q hq).2.1) (by decide), ⟨?_⟩, ?_, by rw [hsz]; exact Nat.le_trans k.bs hle, row k.rt (by decide) fun q hq => (k.a2 q hq).1, row k.rl (by decide) fun q hq => rows_ne k.rl k.rg (by decide) q hq, ?_, fun y hy => row (k.rr y hy) (by decide) fun q hq => rows_ne (k.rr y hy) k.rg (by decide) q hq, fun y hy => row (k.rk y hy) (by decide) fun q hq e => k.a3 q e y hy hq, fun q hq => ⟨(k.a1 q hq).1, fun e => ?_, (k.a1 q hq).2.2⟩, fun q hq => ⟨fun e => ?_, (k.a2 q hq).2⟩, fun q hq y hy z => ?_⟩, core_only hb hg (fun q hq => (k.rg.lt q hq).1), ⟨?_, ?_, ?_, by rw [hsz]; exact hle, fun q hq hn => hc q hq (fun e => hn (Or.inr e)) (fun e => hn (Or.inl e))⟩, new⟩
 · exact (hc t (Array.getElem?_eq_some_iff.1 k.tr.blk).1 (row_ne k.tr.blk k.rg (by decide)) (tag_ne k.tr.blk k.ed (by decide))).trans k.tr.blk
 · exact heap_setCell_same w2 x 6 _ _ v' hx2
 · rw [List.map_append, List.length_append]
   refine L5.owns_of_block ho fun q hq => heap_setCell_other _ _ _ _ fun e => ?_
   have e' : q = x := e
   subst e'
   exact row_ne hx2 ho (by decide) hq
 · rcases new q e with e | e
   · exact (k.a1 q hq).2.1 e
   · have := L4.arSt.lt s w q k.ar hq
     omega
 · rcases new q e with e | e
   · exact (k.a2 q hq).1 e
   · have := (k.rt.lt q hq).2
     omega
 · rcases new q hq with e | e
   · exact k.a3 q e y hy z
   · have := ((k.rk y hy).lt q z).2
     omega
 · exact hg.os.trans hb.os
 · exact hg.tape.trans hb.tape
 · exact hg.output.trans hb.output
end Go.Proofs.YtpcmiholbcmmjaaGreat
namespace Go.Proofs.YtpcmiholbcmmjaaGreat
open Go.ChangeShapes Go.WideShapes Go.ChangeAt Go.RowKit
end Go.Proofs.YtpcmiholbcmmjaaGreat
namespace Go.Proofs.YtpcmiholbcmmjaaGreat.L4
open Go.RowKit
theorem same_walk {b1 b2 : Nat} {w : World} {v1 v2 : Value} {l : List Nat} (h1 : IS b1 w v1 l) (h2 : IS b2 w v2 l) (hl : l.length <= 1000000) : Calls Tryz.prog 31 #[v1, v2] w fun e w' => e = .returned (.bool true) /\ Below w.heap.size w w' := by
 obtain ⟨a1, k1, rfl, hf1, _⟩ := owns_slice h1
 obtain ⟨a2, k2, rfl, hf2, _⟩ := owns_slice h2
 have key : ∀ j, j < l.length -> ∃ g1 g2 n, a1 = some ⟨g1, 0, none⟩ /\ a2 = some ⟨g2, 0, none⟩ /\ g1 < w.heap.size /\ g2 < w.heap.size /\ w.cell? ⟨g1, j, none⟩ = some (.int .i64 n) /\ w.cell? ⟨g2, j, none⟩ = some (.int .i64 n) := by
  intro j hj
  obtain ⟨g1, rfl, x1⟩ := hf1 (by omega)
  obtain ⟨g2, rfl, x2⟩ := hf2 (by omega)
  have hx : (l.map nv)[j]? = some (nv l[j]) := by simp [List.getElem?_eq_getElem hj]
  refine ⟨g1, g2, (l[j] : Int), rfl, rfl, x1, x2, ?_, ?_⟩
  · rw [World.ownsRow.cellAt h1 j (by omega), hx]; rfl
  · rw [World.ownsRow.cellAt h2 j (by omega), hx]; rfl
 have HK : Hid (∀ j, j < l.length -> ∃ g1 g2 n, a1 = some ⟨g1, 0, none⟩ /\ a2 = some ⟨g2, 0, none⟩ /\ g1 < w.heap.size /\ g2 < w.heap.size /\ w.cell? ⟨g1, j, none⟩ = some (.int .i64 n) /\ w.cell? ⟨g2, j, none⟩ = some (.int .i64 n)) := key
 clear h1 h2 hf1 hf2 key
 generalize l.length = len at *
 go_enter Tryz.func31, Tryz.ntmps31
 go_wp2
 go_loopw [5] (fun i wr => ∃ j : Nat, j <= len /\ i = .int .i64 (j : Int) /\ Below w.heap.size w wr) (fun i _ => len - (intOf i).toNat)
 case atStart => exact ⟨0, by omega, rfl, Below.refl _ _⟩
 case round =>
  obtain ⟨j, hj, rfl, B⟩ := hrel
  have HB : Hid (Below w.heap.size w wr) := B
  clear B
  by_cases hlt : j < len
  · obtain ⟨g1, g2, n, rfl, rfl, x1, x2, c1, c2⟩ := HK.out j hlt
    have c1' : wr.cell? ⟨g1, j, none⟩ = some (.int .i64 n) := by rw [HB.out.cell x1]; exact c1
    have c2' : wr.cell? ⟨g2, j, none⟩ = some (.int .i64 n) := by rw [HB.out.cell x2]; exact c2
    clear c1 c2 x1 x2
    go_wp2
    go_quiet (fail)
    go_wp2
    refine ⟨⟨j + 1, by omega, by go_num, below_drewN HB.out _⟩, by simp [intOf]; omega⟩
  · have hj' : j = len := by omega
    subst hj'
    go_wp2
    go_ret
    exact ⟨rfl, HB.out⟩
end Go.Proofs.YtpcmiholbcmmjaaGreat.L4
