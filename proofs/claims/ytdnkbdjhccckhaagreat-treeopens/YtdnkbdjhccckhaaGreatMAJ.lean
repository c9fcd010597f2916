import Derived.Test.YtdnkbdjhccckhaaGreatMAD
import Derived.Laws.BitsAllLaws
import Derived.Test.YtdnkbdjhccckhaaGreatMAH
set_option maxRecDepth 100000
set_option maxHeartbeats 4000000
namespace Go.Proofs.YtdnkbdjhccckhaaGreat.L5
open Go.RowKit
theorem encode_no {n: No} {a: Option Addr} {c: Nat} {a': Option Addr} {c': Nat} {w: World} (hr: NR w n a c a' c') (hs: n.small) (hb: n.shaped = false) :
 Calls Tryz.prog 73 #[nodeV n a c a' c'] w fun e w' => e = .returned (.tuple #[.slice none 0 0, .int .i64 15]) /\ Below w.heap.size w w' := by
 have HB := below_alloc w (.cells #[.bool n.leaf, .slice a n.recs.length c, .slice a' n.kids.length c'] 69)
 have HR: Hid (NR (w.alloc (.cells #[.bool n.leaf, .slice a n.recs.length c, .slice a' n.kids.length c'] 69)) n a c a' c') := hr.below HB
 go_enter Tryz.func73,Tryz.ntmps73
 unfold nodeV
 go_wp2_with fail
 refine (sound_walk (n := n) (a := a) (c := c) (a' := a') (c' := c') HR.out hs).mono ?_
 rintro e w1 ⟨rfl,B1⟩
 rw [hb]
 go_wp2
 go_ret2
 exact ⟨rfl,below_on HB B1⟩
theorem encode_long {n: No} {a: Option Addr} {c: Nat} {a': Option Addr} {c': Nat} {w: World} (hr: NR w n a c a' c') (hs: n.small) (hb: n.shaped = true) (hl: 1024 < n.size) :
 Calls Tryz.prog 73 #[nodeV n a c a' c'] w fun e w' => e = .returned (.tuple #[.slice none 0 0, .int .i64 8]) /\ Below w.heap.size w w' := by
 have HB := below_alloc w (.cells #[.bool n.leaf, .slice a n.recs.length c, .slice a' n.kids.length c'] 69)
 have HR: Hid (NR (w.alloc (.cells #[.bool n.leaf, .slice a n.recs.length c, .slice a' n.kids.length c'] 69)) n a c a' c') := hr.below HB
 have hz: w.heap.size < (w.alloc (.cells #[.bool n.leaf, .slice a n.recs.length c, .slice a' n.kids.length c'] 69)).heap.size := by simp
 obtain ⟨b0,b1,b2⟩ := box_cells w (.bool n.leaf) (.slice a n.recs.length c) (.slice a' n.kids.length c') 69
 have hl': (1024: Int) < (n.size: Int) := by omega
 go_enter Tryz.func73,Tryz.ntmps73
 unfold nodeV
 go_wp2_with fail
 refine (sound_walk (n := n) (a := a) (c := c) (a' := a') (c' := c') HR.out hs).mono ?_
 rintro e w1 ⟨rfl,B1⟩
 rw [hb]
 obtain ⟨hc1,_⟩ := bcell B1
 go_wp2_with fail
 refine (size_walk (n := n) (a := a) (c := c) (a' := a') (c' := c') (HR.out.below B1) hs).mono ?_
 rintro e w2 ⟨rfl,B2⟩
 go_wp2
 go_ret2
 exact ⟨rfl,below_on HB (below_on B1 B2)⟩
theorem encode_ok {n: No} {a: Option Addr} {c: Nat} {a': Option Addr} {c': Nat} {w: World} (hr: NR w n a c a' c') (hs: n.small) (hb: n.shaped = true) (hl: n.size <= 1024) :
 Calls Tryz.prog 73 #[nodeV n a c a' c'] w fun e w' => ∃ b,e = .returned (.tuple #[.slice (some ⟨b,0,none⟩) 1024 1024, .int .i64 0]) /\ w.heap.size <= b /\ Blk w' b (pageL n.toNd) /\ Below w.heap.size w w' := by
 have HB := below_alloc w (.cells #[.bool n.leaf, .slice a n.recs.length c, .slice a' n.kids.length c'] 69)
 have HR: Hid (NR (w.alloc (.cells #[.bool n.leaf, .slice a n.recs.length c, .slice a' n.kids.length c'] 69)) n a c a' c') := hr.below HB
 have hz: w.heap.size < (w.alloc (.cells #[.bool n.leaf, .slice a n.recs.length c, .slice a' n.kids.length c'] 69)).heap.size := by simp
 obtain ⟨b0,b1,b2⟩ := box_cells w (.bool n.leaf) (.slice a n.recs.length c) (.slice a' n.kids.length c') 69
 have hl': (n.size: Int) <= 1024 := by omega
 go_enter Tryz.func73,Tryz.ntmps73
 unfold nodeV
 go_wp2_with fail
 refine (sound_walk (n := n) (a := a) (c := c) (a' := a') (c' := c') HR.out hs).mono ?_
 rintro e w1 ⟨rfl,B1⟩
 rw [hb]
 obtain ⟨hc1,_⟩ := bcell B1
 go_wp2_with fail
 refine (size_walk (n := n) (a := a) (c := c) (a' := a') (c' := c') (HR.out.below B1) hs).mono ?_
 rintro e w2 ⟨rfl,B2⟩
 obtain ⟨hc2,_⟩ := bcell (below_on B1 B2)
 have HR2: Hid (NR w2 n a c a' c') := HR.out.below (below_on B1 B2)
 have B3 := below_on HB (below_on B1 B2)
 clear hc1 B1 B2 HR
 go_wp2_with fail
 refine (written_walk (n := n) (a := a) (c := c) (a' := a') (c' := c') HR2.out hb hl).mono ?_
 rintro e w3 ⟨b,rfl,hbl,hk,B4⟩
 have hsz := B3.size
 go_wp2
 go_ret2
 exact ⟨b,rfl,by omega,hk,below_on B3 B4⟩
theorem conv_blk {W: World} {b: Nat} {L: List UInt8} (h: Blk W b L) (o m cap: Nat) (hl: o + m <= L.length): (convert 81 9 (.slice (some ⟨b,o,none⟩) m cap)).run Tryz.prog W = .ok (.string ⟨(cut L o m).toArray⟩) W := by
 have hm: (cut L o m).length = m := by unfold cut; simp; omega
 have := run_convert_bytes_back (P := Tryz.prog) W 81 9 5 ⟨b,o,none⟩ cap (cut L o m) Tryz.underlying81 Tryz.underlying5 Tryz.underlying9 (fun j hj => by
  rw [show (⟨b,o,none⟩: Addr).add j = ⟨b,o + j,none⟩ by unfold Addr.add; split <;> simp_all,h.cell (o + j) (by omega)]
  have e: (cut L o m)[j] = L[o + j]'(by omega) := by
   have h1: (cut L o m)[j]? = L[o + j]? := by
    unfold cut
    rw [List.getElem?_take,if_pos (by omega),List.getElem?_drop]
   rw [List.getElem?_eq_getElem hj,List.getElem?_eq_getElem (by omega)] at h1
   exact Option.some.inj h1
  rw [e])
 rwa [hm] at this
theorem conv_rblk {W: World} {b: Nat} {L: List UInt8} (h: RBlk W b L) (o m cap: Nat) (hl: o + m <= L.length): (convert 81 9 (.slice (some ⟨b,o,none⟩) m cap)).run Tryz.prog W = .ok (.string ⟨(cut L o m).toArray⟩) W := by
 have hm: (cut L o m).length = m := by unfold cut; simp; omega
 have := run_convert_bytes_back (P := Tryz.prog) W 81 9 5 ⟨b,o,none⟩ cap (cut L o m) Tryz.underlying81 Tryz.underlying5 Tryz.underlying9 (fun j hj => by
  rw [show (⟨b,o,none⟩: Addr).add j = ⟨b,o + j,none⟩ by unfold Addr.add; split <;> simp_all,h.cell (o + j) (by omega)]
  have e: (cut L o m)[j] = L[o + j]'(by omega) := by
   have h1: (cut L o m)[j]? = L[o + j]? := by
    unfold cut
    rw [List.getElem?_take,if_pos (by omega),List.getElem?_drop]
   rw [List.getElem?_eq_getElem hj,List.getElem?_eq_getElem (by omega)] at h1
   exact Option.some.inj h1
  rw [e])
 rwa [hm] at this
def numL (l: List UInt8): Nat := l.foldl (fun n c => n * 256 + c.toNat) 0
theorem numL_snoc (l: List UInt8) (x: UInt8): numL (l ++ [x]) = numL l * 256 + x.toNat := by simp [numL]
theorem numL_lt (l: List UInt8): ∀ x: Nat,l.foldl (fun n c => n * 256 + c.toNat) x < (x + 1) * 256 ^ l.length := by
 induction l with
 | nil => intro x; simp
 | cons c l ih =>
  intro x
  have h := ih (x * 256 + c.toNat)
  have hc := c.toNat_lt
  rw [List.foldl_cons,List.length_cons,Nat.pow_succ]
  refine Nat.lt_of_lt_of_le h ?_
  rw [Nat.mul_comm (256 ^ l.length) 256, <- Nat.mul_assoc]
  exact Nat.mul_le_mul_right _ (by omega)
theorem i64_or_nat (a b: Nat) (ha: a < 9223372036854775808) (hb: b < 9223372036854775808): bits .or .i64 (a: Int) (b: Int) = ((a ||| b: Nat): Int) := by
 have hx: a ||| b < 2 ^ 63 := Nat.or_lt_two_pow (by omega) (by omega)
 show IntKind.i64.wrap ((BitVec.ofInt 64 (a: Int) ||| BitVec.ofInt 64 (b: Int)).toNat: Int) = _
 rw [BitVec.toNat_or,ofInt_u64 a (by omega),ofInt_u64 b (by omega),IntKind.wrap_i64]
 omega
theorem cut_snoc (L: List UInt8) (o j: Nat) (h: o + j < L.length): cut L o (j + 1) = cut L o j ++ [L[o + j]] := by
 unfold cut
 rw [List.take_succ_eq_append_getElem (by simp; omega)]
 simp
theorem cut_length (L: List UInt8) (o j: Nat) (h: o + j <= L.length): (cut L o j).length = j := by
 unfold cut
 simp; omega
theorem number_walk {b o m cap: Nat} {L: List UInt8} {w: World} (hb: RBlk w b L) (hm: m <= 4) (hl: o + m <= L.length) :
 Calls Tryz.prog 141 #[.slice (some ⟨b,o,none⟩) m cap] w fun e w' => e = .returned (.int .i64 (numL (cut L o m): Int)) /\ Below w.heap.size w w' := by
 have HB: Hid (RBlk w b L) := hb
 clear hb
 go_enter Tryz.func141,Tryz.ntmps141
 go_wp2
 go_loopw [3,8] (fun n i wr => ∃ j: Nat,j <= m /\ i = .int .i64 (j: Int) /\ n = .int .i64 (numL (cut L o j): Int) /\ Hid (Below w.heap.size w wr)) (fun _ i _ => m - (intOf i).toNat)
 case atStart => exact ⟨0,Nat.zero_le _,rfl,rfl,Below.refl _ _⟩
 case round =>
  obtain ⟨j,hj,rfl,rfl,HO⟩ := hrel
  by_cases hlt: j < m
  · have hB: RBlk wr b L := (HO.out.block b HB.out.lt).trans HB.out
    have hc := hB.cell (o + j) (by omega)
    clear hB
    have hlt': (j: Int) < (m: Int) := by omega
    have hj0: (0: Int) <= (j: Int) := by omega
    go_wp2
    have hlo := numL_lt (cut L o j) 0
    rw [cut_length L o j (by omega)] at hlo
    have hlo': numL (cut L o j) < 256 ^ 3 := Nat.lt_of_lt_of_le (by simpa [numL] using hlo) (Nat.pow_le_pow_right (by decide) (by omega))
    have hx := (L[o + j]).toNat_lt
    have hv: bits .or .i64 (wrap64 ((numL (cut L o j): Int) * 256)) (wrap64 (L[o + j].toNat: Int)) = (numL (cut L o (j + 1)): Int) := by
     rw [cut_snoc L o j (by omega),numL_snoc]
     generalize numL (cut L o j) = p at hlo' ⊢
     generalize (L[o + j]).toNat = q at hx ⊢
     have e1: wrap64 ((p: Int) * 256) = ((p * 256: Nat): Int) := by unfold wrap64; omega
     have e2: wrap64 (q: Int) = (q: Int) := by unfold wrap64; omega
     rw [e1,e2,i64_or_nat _ _ (by omega) (by omega),nat_join 8 (p * 256) q (by omega) (by omega)]
    rw [hv]
    exact ⟨⟨j + 1,by omega,by go_num,rfl,HO⟩,by simp [intOf]; omega⟩
  · have hlt': (m: Int) <= (j: Int) := by omega
    have hjm: j = m := by omega
    subst hjm
    go_wp2
    go_ret
    exact ⟨rfl,HO.out⟩
def kidsL (L: List UInt8) (o j: Nat): List Int := (List.range j).map fun i => (numL (cut L (o + 4 * i) 4): Int)
theorem kidsL_length (L: List UInt8) (o j: Nat): (kidsL L o j).length = j := by simp [kidsL]
theorem kidsL_snoc (L: List UInt8) (o j: Nat): kidsL L o (j + 1) = kidsL L o j ++ [(numL (cut L (o + 4 * j) 4): Int)] := by
 unfold kidsL
 rw [List.range_succ,List.map_append]
 rfl
structure Rk (w: World) (b: Nat) (L: List UInt8) (l: List Int) (v: Value) (wr: World): Prop where
 below: Below w.heap.size w wr
 row: wr.ownsRow w.heap.size 3 1 v l.length (l.map iv)
 blk: RBlk wr b L
theorem Rk.on {w: World} {b: Nat} {L: List UInt8} {l: List Int} {v: Value} {wr wr': World} (h: Rk w b L l v wr) (hb: Below wr.heap.size wr wr'): Rk w b L l v wr' :=
 ⟨h.below.trans (hb.mono h.below.size),owns_below h.row hb,(hb.block b h.blk.lt).trans h.blk⟩
theorem Rk.grow {w: World} {b: Nat} {L: List UInt8} {l l': List Int} {v v': Value} {wr w': World} (h: Rk w b L l v wr) (hw: RBlk w b L) (hg: wr.grownBy w' v.ownBlock) {m: Nat} (hm: m = l'.length) (ho: w'.ownsRow w.heap.size 3 1 v' m (l'.map iv)): Rk w b L l' v' w' := by
 subst hm
 have hb: Below w.heap.size w w' := h.below.grown hg h.below.size (fun k hk => (h.row.lt k hk).1)
 exact ⟨hb,ho,(hb.block b hw.lt).trans hw⟩
theorem readKids_walk {b o m cap k: Nat} {L: List UInt8} {w: World} (hb: RBlk w b L) (hk: m = 4 * k) (hkk: k <= 10000) (hcap: m <= cap) (hl: o + m <= L.length) (hc: cap <= 9223372036854775807) :
 Calls Tryz.prog 142 #[.slice (some ⟨b,o,none⟩) m cap] w fun e w' => ∃ v,e = .returned v /\ w'.ownsRow w.heap.size 3 1 v k ((kidsL L o k).map iv) /\ Below w.heap.size w w' := by
 have HB: Hid (RBlk w b L) := hb
 clear hb
 go_enter Tryz.func142,Tryz.ntmps142
 have hdiv: (m: Int) / 4 = (k: Int) := by omega
 have HK: Hid (m = 4 * k) := hk
 clear hk
 go_wp2
 go_loopw [3,8] (fun v i wr => ∃ j: Nat,j <= k /\ i = .int .i64 (j: Int) /\ Hid (Rk w b L (kidsL L o j) v wr)) (fun _ i _ => k - (intOf i).toNat)
 case atStart => exact ⟨0,Nat.zero_le _,rfl,⟨Below.refl _ _,⟨rfl,Or.inl ⟨rfl,rfl⟩⟩,HB.out⟩⟩
 case round =>
  obtain ⟨j,hj,rfl,HO⟩ := hrel
  by_cases hlt: j < k
  · have hlt': (j: Int) < (k: Int) := by omega
    have hm4: 4 * (j + 1) <= m := by rw [HK.out]; omega
    have h0: (0: Int) <= 4 * (j: Int) := by omega
    have h1: 4 * (j: Int) <= 4 * ((j: Int) + 1) := by omega
    have h2: 4 * ((j: Int) + 1) <= (cap: Int) := by omega
    go_wp2_with fail
    have h4: 4 * (j + 1) - 4 * j = 4 := by omega
    rw [h4]
    refine (number_walk (L := L) HO.out.blk (by omega) (by omega)).mono ?_
    rintro e w5 ⟨rfl,B5⟩
    have HO5: Hid (Rk w b L (kidsL L o j) u3 w5) := HO.out.on B5
    clear HO B5
    have HO6: Hid (Rk w b L (kidsL L o j) u3 (w5.alloc (.cells #[.int .i64 (numL (cut L (o + 4 * j) 4): Int)] 3))) := HO5.out.on (below_alloc _ _)
    go_wp2_with (first
     | (at_builtin
        revert HO6)
     | fail)
    intro HO6
    refine append_row (z := .int .i64 0) (by_ := 8) Tryz.underlying55 (by kernel_rfl) (by decide) rfl w.heap.size HO6.out.below.size rfl _ _ rfl u3 (kidsL L o j).length ((kidsL L o j).map iv) ([(numL (cut L (o + 4 * j) 4): Int)].map iv) rfl HO6.out.row (by rw [kidsL_length]; omega) 1 (by omega) ⟨w5.heap.size,0,none⟩ 1 rfl rfl (one_int w5 _ _) (one_ivs _) ?_
    intro v' W' hown hg _
    have HO7: Hid (Rk w b L (kidsL L o (j + 1)) v' W') := HO6.out.grow HB.out hg (m := (kidsL L o j).length + 1) (by rw [kidsL_length,kidsL_length]) (by rw [kidsL_snoc,List.map_append]; exact hown)
    clear hown hg HO6 HO5
    go_wp2
    exact ⟨⟨j + 1,by omega,by go_num,HO7⟩,by simp [intOf]; omega⟩
  · have hlt': (k: Int) <= (j: Int) := by omega
    have hjm: j = k := by omega
    subst hjm
    go_wp2
    go_ret
    exact ⟨_,rfl,by have := HO.out.row; rwa [kidsL_length] at this,HO.out.below⟩
def begL (L: List UInt8) (o i: Nat): Nat := numL (cut L (o + 4 * i) 2)
def lenL (L: List UInt8) (o i: Nat): Nat := numL (cut L (o + 4 * i + 2) 2)
def recL (L: List UInt8) (o i: Nat): ByteArray := ⟨(cut L (begL L o i) (lenL L o i)).toArray⟩
def recsL (L: List UInt8) (o j: Nat): List ByteArray := (List.range j).map (recL L o)
def inL (L: List UInt8) (o j: Nat): Prop := ∀ i,i < j -> begL L o i + lenL L o i <= L.length
theorem recsL_length (L: List UInt8) (o j: Nat): (recsL L o j).length = j := by simp [recsL]
theorem recsL_snoc (L: List UInt8) (o j: Nat): recsL L o (j + 1) = recsL L o j ++ [recL L o j] := by
 unfold recsL
 rw [List.range_succ,List.map_append]
 rfl
theorem num2_lt (L: List UInt8) (o: Nat): numL (cut L o 2) < 65536 := by
 have h := numL_lt (cut L o 2) 0
 have hl: (cut L o 2).length <= 2 := by unfold cut; simp; omega
 refine Nat.lt_of_lt_of_le (show numL (cut L o 2) < 1 * 256 ^ (cut L o 2).length by simpa [numL] using h) ?_
 rw [Nat.one_mul]
 exact Nat.pow_le_pow_right (by decide) hl
structure Rr (w: World) (b: Nat) (L: List UInt8) (l: List ByteArray) (v: Value) (wr: World): Prop where
 below: Below w.heap.size w wr
 row: wr.ownsRow w.heap.size 9 1 v l.length (svs l)
 blk: RBlk wr b L
theorem Rr.on {w: World} {b: Nat} {L: List UInt8} {l: List ByteArray} {v: Value} {wr wr': World} (h: Rr w b L l v wr) (hb: Below wr.heap.size wr wr'): Rr w b L l v wr' :=
 ⟨h.below.trans (hb.mono h.below.size),owns_below h.row hb,(hb.block b h.blk.lt).trans h.blk⟩
theorem Rr.grow {w: World} {b: Nat} {L: List UInt8} {l l': List ByteArray} {v v': Value} {wr w': World} (h: Rr w b L l v wr) (hw: RBlk w b L) (hg: wr.grownBy w' v.ownBlock) {m: Nat} (hm: m = l'.length) (ho: w'.ownsRow w.heap.size 9 1 v' m (svs l')): Rr w b L l' v' w' := by
 subst hm
 have hb: Below w.heap.size w w' := h.below.grown hg h.below.size (fun k hk => (h.row.lt k hk).1)
 exact ⟨hb,ho,(hb.block b hw.lt).trans hw⟩
theorem one_str (W: World) (x: ByteArray) (t: TypeId): ∀ i u,(svs [x])[i]? = some u -> (W.alloc (.cells #[.string x] t)).cell? ((⟨W.heap.size,0,none⟩: Addr).add i) = some u := by
 intro i u h
 have hi: i = 0 := by
  have := (List.getElem?_eq_some_iff.1 h).1
  simpa [svs] using this
 subst hi
 simp [svs] at h
 subst h
 simp [go_sem]
theorem readRecs_walk {b o m cap capb k lb: Nat} {L: List UInt8} {w: World} (hb: RBlk w b L) (hlb: lb = L.length) (hk: m = 4 * k) (hkk: k <= 10000) (hcap: m <= cap) (hl: o + m <= lb) (hc: cap <= 9223372036854775807) (hcb: lb <= capb) (hcb2: capb <= 9223372036854775807) :
 Calls Tryz.prog 143 #[.slice (some ⟨b,0,none⟩) lb capb, .slice (some ⟨b,o,none⟩) m cap] w fun e w' => Below w.heap.size w w' /\ ((inL L o k /\ ∃ v,e = .returned (.tuple #[v, .bool true]) /\ w'.ownsRow w.heap.size 9 1 v k (svs (recsL L o k))) \/ (¬ inL L o k /\ e = .returned (.tuple #[.slice none 0 0, .bool false]))) := by
 have HB: Hid (RBlk w b L) := hb
 clear hb
 go_enter Tryz.func143,Tryz.ntmps143
 have hdiv: (m: Int) / 4 = (k: Int) := by omega
 have HK: Hid (m = 4 * k) := hk
 have HL: Hid (lb = L.length) := hlb
 clear hk hlb
 go_wp2
 go_loopw [6,14] (fun v i wr => ∃ j: Nat,j <= k /\ i = .int .i64 (j: Int) /\ Hid (inL L o j) /\ Hid (Rr w b L (recsL L o j) v wr)) (fun _ i _ => k - (intOf i).toNat)
 case atStart => exact ⟨0,Nat.zero_le _,rfl,(fun i hi => absurd hi (Nat.not_lt_zero _)),⟨Below.refl _ _,⟨rfl,Or.inl ⟨rfl,rfl⟩⟩,HB.out⟩⟩
 case round =>
  obtain ⟨j,hj,rfl,HI,HO⟩ := hrel
  by_cases hlt: j < k
  · have hlt': (j: Int) < (k: Int) := by omega
    have hm4: 4 * (j + 1) <= m := by rw [HK.out]; omega
    have h0: (0: Int) <= 4 * (j: Int) := by omega
    have h1: 4 * (j: Int) <= 4 * ((j: Int) + 1) := by omega
    have h2: 4 * ((j: Int) + 1) <= (cap: Int) := by omega
    have h4: 4 * (j + 1) - 4 * j = 4 := by omega
    have h5: (2: Int) <= ((cap - 4 * j: Nat): Int) := by omega
    have h6: 2 <= cap - 4 * j := by omega
    go_wp2_with fail
    refine (number_walk (L := L) HO.out.blk (by omega) (by have := HL.out; omega)).mono ?_
    rintro e w5 ⟨rfl,B5⟩
    have HO5: Hid (Rr w b L (recsL L o j) u6 w5) := HO.out.on B5
    clear HO B5
    rw [h4]
    have hp5 := num2_lt L (o + 4 * j)
    have HP: Hid (begL L o j = numL (cut L (o + 4 * j) 2)) := rfl
    generalize numL (cut L (o + 4 * j) 2) = p at hp5 HP ⊢
    go_wp2_with fail
    refine (number_walk (L := L) (o := o + 4 * j + 2) HO5.out.blk (by omega) (by have := HL.out; omega)).mono ?_
    rintro e w6 ⟨rfl,B6⟩
    have HO6: Hid (Rr w b L (recsL L o j) u6 w6) := HO5.out.on B6
    clear HO5 B6
    have hq6 := num2_lt L (o + 4 * j + 2)
    have HQ: Hid (lenL L o j = numL (cut L (o + 4 * j + 2) 2)) := rfl
    generalize numL (cut L (o + 4 * j + 2) 2) = q at hq6 HQ ⊢
    by_cases hpq: p + q <= lb
    · have hpq': (p: Int) + (q: Int) <= (lb: Int) := by omega
      have hpq2: (p: Int) + (q: Int) <= (capb: Int) := by omega
      have hp0: (p: Int) <= (p: Int) + (q: Int) := by omega
      have hcv: (convert 81 9 (.slice (some ⟨b,p,none⟩) q (capb - p))).run Tryz.prog w6 = .ok (.string ⟨(cut L p q).toArray⟩) w6 := conv_rblk HO6.out.blk p q (capb - p) (by have := HL.out; omega)
      have HS: Hid (recL L o j = ⟨(cut L p q).toArray⟩) := by show recL L o j = _; unfold recL; rw [HP.out,HQ.out]
      have HIj: Hid (inL L o (j + 1)) := fun i hi => by
       by_cases e: i = j
       · subst e; rw [HP.out,HQ.out, <- HL.out]; exact hpq
       · exact HI.out i (by omega)
      have hcv0: q = 0 -> (convert 81 9 (.slice (some ⟨b,0,none⟩) 0 0)).run Tryz.prog w6 = .ok (.string ⟨(cut L p q).toArray⟩) w6 := fun h => by
       have := conv_rblk HO6.out.blk 0 0 0 (by omega)
       rw [this,h]
       simp [cut]
      generalize (⟨(cut L p q).toArray⟩: ByteArray) = S at hcv hcv0 HS
      have HO7: Hid (Rr w b L (recsL L o j) u6 (w6.alloc (.cells #[.string S] 9))) := HO6.out.on (below_alloc _ _)
      by_cases hcp: capb = p
      · have hq0: q = 0 := by omega
        have hcv1 := hcv0 hq0
        clear hcv0 hcv
        subst hcp
        subst hq0
        go_wp2_with (first
         | (at_builtin
            revert HO7)
         | fail)
        intro HO7
        refine append_row (z := .string ⟨#[]⟩) (by_ := 16) Tryz.underlying33 (by kernel_rfl) (by decide) rfl w.heap.size HO7.out.below.size rfl _ _ rfl u6 (recsL L o j).length (svs (recsL L o j)) (svs [S]) rfl HO7.out.row (by rw [recsL_length]; omega) 1 (by omega) ⟨w6.heap.size,0,none⟩ 1 rfl rfl (one_str w6 _ _) (one_svs _) ?_
        intro v' W' hown hg _
        have HO8: Hid (Rr w b L (recsL L o (j + 1)) v' W') := HO7.out.grow HB.out hg (m := (recsL L o j).length + 1) (by rw [recsL_length,recsL_length]) (by rw [recsL_snoc,HS.out]; unfold svs at hown ⊢; rw [List.map_append]; exact hown)
        clear hown hg HO7 HO6
        go_wp2
        exact ⟨⟨j + 1,by omega,by go_num,HIj,HO8⟩,by simp [intOf]; omega⟩
      · clear hcv0
        go_wp2_with (first
         | (at_builtin
            revert HO7)
         | fail)
        intro HO7
        refine append_row (z := .string ⟨#[]⟩) (by_ := 16) Tryz.underlying33 (by kernel_rfl) (by decide) rfl w.heap.size HO7.out.below.size rfl _ _ rfl u6 (recsL L o j).length (svs (recsL L o j)) (svs [S]) rfl HO7.out.row (by rw [recsL_length]; omega) 1 (by omega) ⟨w6.heap.size,0,none⟩ 1 rfl rfl (one_str w6 _ _) (one_svs _) ?_
        intro v' W' hown hg _
        have HO8: Hid (Rr w b L (recsL L o (j + 1)) v' W') := HO7.out.grow HB.out hg (m := (recsL L o j).length + 1) (by rw [recsL_length,recsL_length]) (by rw [recsL_snoc,HS.out]; unfold svs at hown ⊢; rw [List.map_append]; exact hown)
        clear hown hg HO7 HO6
        go_wp2
        exact ⟨⟨j + 1,by omega,by go_num,HIj,HO8⟩,by simp [intOf]; omega⟩
    · have hpq': (lb: Int) < (p: Int) + (q: Int) := by omega
      have HN: Hid (¬ inL L o k) := fun h => hpq (by have := h j hlt; rw [HP.out,HQ.out, <- HL.out] at this; exact this)
      go_wp2
      go_ret2
      exact ⟨HO6.out.below,Or.inr ⟨HN.out,rfl⟩⟩
  · have hlt': (k: Int) <= (j: Int) := by omega
    have hjm: j = k := by omega
    subst hjm
    go_wp2
    go_ret2
    exact ⟨HO.out.below,Or.inl ⟨HI.out,_,rfl,by have := HO.out.row; rwa [recsL_length] at this⟩⟩
theorem hidd {p: Prop} (h: p): Hid p := h
def cntL (L: List UInt8): Nat := numL (cut L 1 2)
def leafB (L: List UInt8): Bool := byteAt L 0 == 1
def kidN (L: List UInt8): Nat := if leafB L then 0 else cntL L + 1
def slotAt (L: List UInt8): Nat := 3 + 4 * kidN L
def rawN (L: List UInt8): No := ⟨leafB L,recsL L (slotAt L) (cntL L),kidsL L 3 (kidN L)⟩
def rawOk (L: List UInt8): Prop := slotAt L + 4 * cntL L <= 1024 /\ inL L (slotAt L) (cntL L)
theorem read_no {a: Option Addr} {lb cap: Nat} {w: World} (h: lb ≠ 1024) :
 Calls Tryz.prog 129 #[.slice a lb cap] w fun e w' => Below w.heap.size w w' /\ e = .returned (.tuple #[.agg #[.bool false, .slice none 0 0, .slice none 0 0], .bool false]) := by
 have h': ¬ (lb: Int) = 1024 := by omega
 go_enter Tryz.func129,Tryz.ntmps129
 go_wp2
 refine bodyPost_ret (v := .tuple #[.agg #[.bool false, .slice none 0 0, .slice none 0 0], .bool false]) ?_ rfl ?_
 · simp [results,Tryz.results129,go_sem]
 · exact ⟨below_alloc _ _,rfl⟩
structure Rw (w: World) (b: Nat) (L: List UInt8) (wr: World): Prop where
 below: Below w.heap.size w wr
 z: wr.heap[w.heap.size]? = some zNode
 blk: RBlk wr b L
theorem Rw.on {w: World} {b: Nat} {L: List UInt8} {wr wr': World} (h: Rw w b L wr) (hb: Below wr.heap.size wr wr'): Rw w b L wr' :=
 ⟨h.below.trans (hb.mono h.below.size),(hb.block _ (Array.getElem?_eq_some_iff.1 h.z).1).trans h.z,(hb.block b h.blk.lt).trans h.blk⟩
theorem Rw.new {w: World} {b: Nat} {L: List UInt8} (h: RBlk w b L): Rw w b L (w.alloc zNode) :=
 ⟨below_alloc _ _,heap_alloc_last _ _,((below_alloc w zNode).block b h.lt).trans h⟩
def ROut (w: World) (x y z: Value) (W: World): Prop :=
 W.cell? ⟨w.heap.size,0,none⟩ = some x /\ W.cell? ⟨w.heap.size,1,none⟩ = some y /\ W.cell? ⟨w.heap.size,2,none⟩ = some z /\ Below w.heap.size w W
theorem read_fail {w W: World} {b: Nat} {L: List UInt8} (h: Rw w b L W) (x y z: Value) (ob: Obj): ROut w x y z ((put3 W w.heap.size x y z).alloc ob) := by
 have hb: Below w.heap.size w (put3 W w.heap.size x y z) := put3_below h.below (Nat.le_refl _) x y z
 have hz := put3_block h.z x y z
 have ha := below_alloc (put3 W w.heap.size x y z) ob
 have hz2 := (ha.block _ (Array.getElem?_eq_some_iff.1 hz).1).trans hz
 obtain ⟨c0,c1,c2⟩ := node_cells hz2
 exact ⟨c0,c1,c2,hb.trans (ha.mono hb.size)⟩
structure Rx (w: World) (b: Nat) (L: List UInt8) (p: Nat) (x y z: Value) (wr: World): Prop where
 rw: Rw w b L wr
 n: wr.heap[p]? = some (.cells #[x,y,z] 69 (0,0))
theorem Rx.on {w: World} {b: Nat} {L: List UInt8} {p: Nat} {x y z: Value} {wr wr': World} (h: Rx w b L p x y z wr) (hb: Below wr.heap.size wr wr'): Rx w b L p x y z wr' :=
 ⟨h.rw.on hb,(hb.block _ (Array.getElem?_eq_some_iff.1 h.n).1).trans h.n⟩
theorem Rw.node {w: World} {b: Nat} {L: List UInt8} {wr: World} (h: Rw w b L wr) (x y z: Value): Rx w b L wr.heap.size x y z (wr.alloc (.cells #[x,y,z] 69)) :=
 ⟨h.on (below_alloc _ _),heap_alloc_last _ _⟩
theorem Rx.set {w: World} {b: Nat} {L: List UInt8} {p: Nat} {x y z: Value} {wr: World} (h: Rx w b L p x y z wr) (hp: w.heap.size < p) (hb: b ≠ p) (v: Value) (i: Nat) {cs: Array Value} (hcs: #[x,y,z].setIfInBounds i v = cs) :
 Rw w b L (wr.setCell ⟨p,i,none⟩ v) /\ (wr.setCell ⟨p,i,none⟩ v).heap[p]? = some (.cells cs 69 (0,0)) := by
 refine ⟨⟨h.rw.below.setCell (by show w.heap.size <= p; omega) v, ?_, ?_⟩, ?_⟩
 · rw [heap_setCell_other _ _ _ _ (by show w.heap.size ≠ p; omega)]; exact h.rw.z
 · unfold RBlk; rw [heap_setCell_other _ _ _ _ hb]; exact h.rw.blk
 · subst hcs; exact heap_setCell_same wr p i _ _ v h.n
def RRes (w: World) (x r k: Value) (A: Nat) (l: List Value) (B: Nat) (ks: List Value) (W: World): Prop :=
 ROut w x r k W /\ W.ownsRow w.heap.size 9 1 r A l /\ W.ownsRow w.heap.size 3 1 k B ks
theorem read_end {w W: World} {b: Nat} {L: List UInt8} {p: Nat} {x y z: Value} (h: Rx w b L p x y z W) (hp: w.heap.size < p) (hb: b ≠ p) {r: Value} {A B: Nat} {l ks: List Value} (h1: W.ownsRow w.heap.size 9 1 r A l) (h2: W.ownsRow w.heap.size 3 1 z B ks): RRes w x r z A l B ks (put3 (W.setCell ⟨p,1,none⟩ r) w.heap.size x r z) := by
 obtain ⟨s1,s2⟩ := h.set hp hb r 1 rfl
 have o1 := owns_node h1 (by decide) h.n 1 r
 have o2 := owns_node h2 (by decide) h.n 1 r
 obtain ⟨c0,c1,c2⟩ := node_cells (put3_block s1.z x r z)
 exact ⟨⟨c0,c1,c2,put3_below s1.below (Nat.le_refl _) x r z⟩,owns_put3 o1 (by decide) s1.z x r z,owns_put3 o2 (by decide) s1.z x r z⟩
theorem read_walk {b: Nat} {L: List UInt8} {w: World} (hb: RBlk w b L) (hl: L.length = 1024) :
 Calls Tryz.prog 129 #[.slice (some ⟨b,0,none⟩) 1024 1024] w fun e w' => Below w.heap.size w w' /\ ((rawOk L /\ ∃ r k,e = .returned (.tuple #[.agg #[.bool (leafB L),r,k], .bool true]) /\ w'.ownsRow w.heap.size 9 1 r (cntL L) (svs (rawN L).recs) /\ w'.ownsRow w.heap.size 3 1 k (kidN L) (ivs (rawN L).kids)) \/ (¬ rawOk L /\ ∃ lf x m q,e = .returned (.tuple #[.agg #[.bool lf, .slice none 0 0, .slice x m q], .bool false]))) := by
 have HB: Hid (RBlk w b L) := hb
 have HL: Hid (L.length = 1024) := hl
 clear hb hl
 go_enter Tryz.func129,Tryz.ntmps129
 go_wp2_with fail
 have H0: Hid (Rw w b L (w.alloc (.cells #[.bool false, .slice none 0 0, .slice none 0 0] 69))) := Rw.new HB.out
 refine (number_walk (L := L) H0.out.blk (by omega) (by have := HL.out; omega)).mono ?_
 rintro e w1 ⟨rfl,B1⟩
 have H1: Hid (Rw w b L w1) := H0.out.on B1
 clear H0 B1
 have hc0 := H1.out.blk.cell 0 (by have := HL.out; omega)
 have z0 := (node_cells H1.out.z).1
 have z1 := (node_cells H1.out.z).2.1
 have z2 := (node_cells H1.out.z).2.2
 have zf: ∀ i,w1.frozen? ⟨w.heap.size,i,none⟩ = false := fun i => frozen_of_row _ _ _ _ _ H1.out.z
 have xl: w.heap.size < w1.heap.size := (Array.getElem?_eq_some_iff.1 H1.out.z).1
 have hcl := num2_lt L 1
 have HC: Hid (cntL L = numL (cut L 1 2)) := rfl
 generalize numL (cut L 1 2) = cn at hcl HC ⊢
 have hby: byteAt L 0 = (L[0]'(by have := HL.out; omega)).toNat := by unfold byteAt; rw [List.getD_eq_getElem?_getD,List.getElem?_eq_getElem (by have := HL.out; omega)]; rfl
 cases hlf: leafB L
 · have h01: ¬ ((L[0]'(by have := HL.out; omega)).toNat: Int) = 1 := by
    have: ¬ byteAt L 0 = 1 := by simpa [leafB] using hlf
    rw [hby] at this
    omega
   clear hby
   generalize ((L[0]'(by have := HL.out; omega)).toNat: Int) = y at hc0 h01
   have h02: (y == 1) = false := by simpa using h01
   by_cases hend: 3 + 4 * (cn + 1) + 4 * cn <= 1024
   · have j1: (3: Int) <= 3 + 4 * ((cn: Int) + 1) := by omega
     have j2: 3 + 4 * ((cn: Int) + 1) <= 1024 := by omega
     have hend': 3 + 4 * ((cn: Int) + 1) + 4 * (cn: Int) <= 1024 := by omega
     go_wp2_with fail
     have H2: Hid (Rx w b L w1.heap.size (.bool false) (.slice none 0 0) (.slice none 0 0) (w1.alloc (.cells #[.bool false, .slice none 0 0, .slice none 0 0] 69))) := H1.out.node _ _ _
     refine (readKids_walk (L := L) (k := cn + 1) H2.out.rw.blk (by omega) (by omega) (by omega) (by have := HL.out; omega) (by omega)).mono ?_
     rintro e w2 ⟨v2,rfl,O2,B2⟩
     obtain ⟨x2,q2,rfl,_,_,_⟩ := owns_rd O2
     have H3: Hid (Rx w b L w1.heap.size (.bool false) (.slice none 0 0) (.slice none 0 0) w2) := H2.out.on B2
     have HO2: Hid (w2.ownsRow w.heap.size 3 1 (.slice x2 (cn + 1) q2) (cn + 1) ((kidsL L 3 (cn + 1)).map iv)) := owns_base O2 H2.out.rw.below.size
     clear z0 z1 z2 zf H2 O2 B2 hc0
     have y0 := (node_cells H3.out.n).1
     have y1 := (node_cells H3.out.n).2.1
     have y2 := (node_cells H3.out.n).2.2
     have yf: ∀ i,w2.frozen? ⟨w1.heap.size,i,none⟩ = false := fun i => frozen_of_row _ _ _ _ _ H3.out.n
     have yl: w1.heap.size < w2.heap.size := (Array.getElem?_eq_some_iff.1 H3.out.n).1
     have hbn: b ≠ w1.heap.size := fun e => by have := HB.out.lt; omega
     have i1: 3 + 4 * ((cn: Int) + 1) <= 3 + 4 * ((cn: Int) + 1) + 4 * (cn: Int) := by omega
     have i2: 3 + 4 * ((cn: Int) + 1) <= 1024 := by omega
     have i3: (3: Int) <= 3 + 4 * ((cn: Int) + 1) := by omega
     go_wp2_with fail
     have HS := hidd (H3.out.set xl hbn (.slice x2 (cn + 1) q2) 2 rfl)
     have HO3 := hidd (owns_node HO2.out (by decide) H3.out.n 2 (.slice x2 (cn + 1) q2))
     have H4: Hid (Rx w b L w1.heap.size (.bool false) (.slice none 0 0) (.slice x2 (cn + 1) q2) (w2.setCell ⟨w1.heap.size,2,none⟩ (.slice x2 (cn + 1) q2))) := ⟨HS.out.1,HS.out.2⟩
     clear HS H3 HO2 y0 y1 y2 yf yl
     generalize w2.setCell ⟨w1.heap.size,2,none⟩ (.slice x2 (cn + 1) q2) = w3 at H4 HO3 ⊢
     refine (readRecs_walk (L := L) (k := cn) H4.out.rw.blk HL.out.symm rfl (by omega) (by omega) (by omega) (by omega) (by omega) (by omega)).mono ?_
     rintro e w4 ⟨B4,⟨hin,v4,rfl,O4⟩ | ⟨hin,rfl⟩⟩
     · obtain ⟨x4,q4,rfl,_,_,_⟩ := owns_rd O4
       have H5 := hidd (H4.out.on B4)
       have HO4 := hidd (owns_base O4 H4.out.rw.below.size)
       have HO5 := hidd (owns_below HO3.out B4)
       clear O4 B4 HO3 H4
       have HI: Hid _ := hin
       clear hin
       have y0 := (node_cells H5.out.n).1
       have y1 := (node_cells H5.out.n).2.1
       have y2 := (node_cells H5.out.n).2.2
       have yf: ∀ i,w4.frozen? ⟨w1.heap.size,i,none⟩ = false := fun i => frozen_of_row _ _ _ _ _ H5.out.n
       have yl: w1.heap.size < w4.heap.size := (Array.getElem?_eq_some_iff.1 H5.out.n).1
       have z0 := (node_cells H5.out.rw.z).1
       have z1 := (node_cells H5.out.rw.z).2.1
       have z2 := (node_cells H5.out.rw.z).2.2
       have zf: ∀ i,w4.frozen? ⟨w.heap.size,i,none⟩ = false := fun i => frozen_of_row _ _ _ _ _ H5.out.rw.z
       have e1 := set_far (p := w1.heap.size) (q := w.heap.size) (by omega)
       have e2 := set_far (p := w.heap.size) (q := w1.heap.size) (by omega)
       go_wp2_with fail
       refine to_letter (read_end H5.out xl hbn HO4.out HO5.out) ?_
       clear y0 y1 y2 yf yl z0 z1 z2 zf e1 e2 H5 HO4 HO5
       intro Wf hF
       obtain ⟨⟨g0,g1,g2,hB⟩,r1,r2⟩ := hF
       refine bodyPost_ret (v := .tuple #[.agg #[.bool false, .slice x4 cn q4, .slice x2 (cn + 1) q2], .bool true]) ?_ rfl ?_
       · simp [results,Tryz.results129,go_sem,g0,g1,g2]
       · refine ⟨hB,Or.inl ⟨?_,_,_,by rw [hlf], ?_, ?_⟩⟩
         · unfold rawOk
           rw [show slotAt L = 3 + 4 * (cn + 1) by unfold slotAt kidN; rw [hlf,HC.out]; rfl,HC.out]
           exact ⟨hend,HI.out⟩
         · unfold rawN
           rw [show slotAt L = 3 + 4 * (cn + 1) by unfold slotAt kidN; rw [hlf,HC.out]; rfl,HC.out]
           exact r1
         · unfold rawN
           rw [show kidN L = cn + 1 by unfold kidN; rw [hlf,HC.out]; rfl]
           exact r2
     · have H5 := hidd (H4.out.on B4)
       have HO5 := hidd (owns_below HO3.out B4)
       clear B4 HO3 H4
       have HN: Hid (¬ rawOk L) := fun h => hin (by
        have := h.2
        rw [show slotAt L = 3 + 4 * (cn + 1) by unfold slotAt kidN; rw [hlf,HC.out]; rfl,HC.out] at this
        exact this)
       clear hin
       have y0 := (node_cells H5.out.n).1
       have y1 := (node_cells H5.out.n).2.1
       have y2 := (node_cells H5.out.n).2.2
       have yf: ∀ i,w4.frozen? ⟨w1.heap.size,i,none⟩ = false := fun i => frozen_of_row _ _ _ _ _ H5.out.n
       have yl: w1.heap.size < w4.heap.size := (Array.getElem?_eq_some_iff.1 H5.out.n).1
       have z0 := (node_cells H5.out.rw.z).1
       have z1 := (node_cells H5.out.rw.z).2.1
       have z2 := (node_cells H5.out.rw.z).2.2
       have zf: ∀ i,w4.frozen? ⟨w.heap.size,i,none⟩ = false := fun i => frozen_of_row _ _ _ _ _ H5.out.rw.z
       have e1 := set_far (p := w1.heap.size) (q := w.heap.size) (by omega)
       have e2 := set_far (p := w.heap.size) (q := w1.heap.size) (by omega)
       go_wp2_with fail
       refine to_letter (read_end (r := .slice none 0 0) H5.out xl hbn (World.ownsRow_nil _ _ _ _) HO5.out) ?_
       clear y0 y1 y2 yf yl z0 z1 z2 zf e1 e2 H5 HO5
       intro Wf hF
       obtain ⟨⟨g0,g1,g2,hB⟩,_,_⟩ := hF
       refine bodyPost_ret (v := .tuple #[.agg #[.bool false, .slice none 0 0, .slice x2 (cn + 1) q2], .bool false]) ?_ rfl ?_
       · simp [results,Tryz.results129,go_sem,g0,g1,g2]
       · exact ⟨hB,Or.inr ⟨HN.out,_,_,_,_,rfl⟩⟩
   · have hend': 1024 < 3 + 4 * ((cn: Int) + 1) + 4 * (cn: Int) := by omega
     have HN: Hid (¬ rawOk L) := fun h => by
      have := h.1
      unfold slotAt kidN at this
      rw [hlf,HC.out] at this
      simp at this
      omega
     go_wp2_with fail
     refine to_letter (read_fail H1.out (.bool false) (.slice none 0 0) (.slice none 0 0) _) ?_
     clear z0 z1 z2 zf H1 xl hc0
     intro Wf hF
     obtain ⟨g0,g1,g2,hF⟩ := hF
     refine bodyPost_ret (v := .tuple #[.agg #[.bool false, .slice none 0 0, .slice none 0 0], .bool false]) ?_ rfl ?_
     · simp [results,Tryz.results129,go_sem,g0,g1,g2]
     · exact ⟨hF,Or.inr ⟨HN.out,_,_,_,_,rfl⟩⟩
 · have h01: (L[0]'(by have := HL.out; omega)).toNat = 1 := by rw [<- hby]; simpa [leafB] using hlf
   rw [h01] at hc0
   clear h01 hby
   by_cases hend: 3 + 4 * cn <= 1024
   · have hend': 3 + 4 * (cn: Int) <= 1024 := by omega
     go_wp2_with fail
     have H2: Hid (Rx w b L w1.heap.size (.bool true) (.slice none 0 0) (.slice none 0 0) (w1.alloc (.cells #[.bool true, .slice none 0 0, .slice none 0 0] 69))) := H1.out.node _ _ _
     refine (readKids_walk (L := L) (k := 0) H2.out.rw.blk (by omega) (by omega) (by omega) (by have := HL.out; omega) (by omega)).mono ?_
     rintro e w2 ⟨v2,rfl,O2,B2⟩
     obtain ⟨x2,q2,rfl,_,_,_⟩ := owns_rd O2
     have H3: Hid (Rx w b L w1.heap.size (.bool true) (.slice none 0 0) (.slice none 0 0) w2) := H2.out.on B2
     have HO2: Hid (w2.ownsRow w.heap.size 3 1 (.slice x2 0 q2) 0 ((kidsL L 3 0).map iv)) := owns_base O2 H2.out.rw.below.size
     clear z0 z1 z2 zf H2 O2 B2 hc0
     have y0 := (node_cells H3.out.n).1
     have y1 := (node_cells H3.out.n).2.1
     have y2 := (node_cells H3.out.n).2.2
     have yf: ∀ i,w2.frozen? ⟨w1.heap.size,i,none⟩ = false := fun i => frozen_of_row _ _ _ _ _ H3.out.n
     have yl: w1.heap.size < w2.heap.size := (Array.getElem?_eq_some_iff.1 H3.out.n).1
     have hbn: b ≠ w1.heap.size := fun e => by have := HB.out.lt; omega
     have i1: (3: Int) <= 3 + 4 * (cn: Int) := by omega
     go_wp2_with fail
     have HS := hidd (H3.out.set xl hbn (.slice x2 0 q2) 2 rfl)
     have HO3 := hidd (owns_node HO2.out (by decide) H3.out.n 2 (.slice x2 0 q2))
     have H4: Hid (Rx w b L w1.heap.size (.bool true) (.slice none 0 0) (.slice x2 0 q2) (w2.setCell ⟨w1.heap.size,2,none⟩ (.slice x2 0 q2))) := ⟨HS.out.1,HS.out.2⟩
     clear HS H3 HO2 y0 y1 y2 yf yl
     generalize w2.setCell ⟨w1.heap.size,2,none⟩ (.slice x2 0 q2) = w3 at H4 HO3 ⊢
     refine (readRecs_walk (L := L) (k := cn) H4.out.rw.blk HL.out.symm rfl (by omega) (by omega) (by omega) (by omega) (by omega) (by omega)).mono ?_
     rintro e w4 ⟨B4,⟨hin,v4,rfl,O4⟩ | ⟨hin,rfl⟩⟩
     · obtain ⟨x4,q4,rfl,_,_,_⟩ := owns_rd O4
       have H5 := hidd (H4.out.on B4)
       have HO4 := hidd (owns_base O4 H4.out.rw.below.size)
       have HO5 := hidd (owns_below HO3.out B4)
       clear O4 B4 HO3 H4
       have HI: Hid _ := hin
       clear hin
       have y0 := (node_cells H5.out.n).1
       have y1 := (node_cells H5.out.n).2.1
       have y2 := (node_cells H5.out.n).2.2
       have yf: ∀ i,w4.frozen? ⟨w1.heap.size,i,none⟩ = false := fun i => frozen_of_row _ _ _ _ _ H5.out.n
       have yl: w1.heap.size < w4.heap.size := (Array.getElem?_eq_some_iff.1 H5.out.n).1
       have z0 := (node_cells H5.out.rw.z).1
       have z1 := (node_cells H5.out.rw.z).2.1
       have z2 := (node_cells H5.out.rw.z).2.2
       have zf: ∀ i,w4.frozen? ⟨w.heap.size,i,none⟩ = false := fun i => frozen_of_row _ _ _ _ _ H5.out.rw.z
       have e1 := set_far (p := w1.heap.size) (q := w.heap.size) (by omega)
       have e2 := set_far (p := w.heap.size) (q := w1.heap.size) (by omega)
       go_wp2_with fail
       refine to_letter (read_end H5.out xl hbn HO4.out HO5.out) ?_
       clear y0 y1 y2 yf yl z0 z1 z2 zf e1 e2 H5 HO4 HO5
       intro Wf hF
       obtain ⟨⟨g0,g1,g2,hB⟩,r1,r2⟩ := hF
       refine bodyPost_ret (v := .tuple #[.agg #[.bool true, .slice x4 cn q4, .slice x2 0 q2], .bool true]) ?_ rfl ?_
       · simp [results,Tryz.results129,go_sem,g0,g1,g2]
       · refine ⟨hB,Or.inl ⟨?_,_,_,by rw [hlf], ?_, ?_⟩⟩
         · unfold rawOk
           rw [show slotAt L = 3 by unfold slotAt kidN; rw [hlf]; rfl,HC.out]
           exact ⟨hend,HI.out⟩
         · unfold rawN
           rw [show slotAt L = 3 by unfold slotAt kidN; rw [hlf]; rfl,HC.out]
           exact r1
         · unfold rawN
           rw [show kidN L = 0 by unfold kidN; rw [hlf]; rfl]
           exact r2
     · have H5 := hidd (H4.out.on B4)
       have HO5 := hidd (owns_below HO3.out B4)
       clear B4 HO3 H4
       have HN: Hid (¬ rawOk L) := fun h => hin (by
        have := h.2
        rw [show slotAt L = 3 by unfold slotAt kidN; rw [hlf]; rfl,HC.out] at this
        exact this)
       clear hin
       have y0 := (node_cells H5.out.n).1
       have y1 := (node_cells H5.out.n).2.1
       have y2 := (node_cells H5.out.n).2.2
       have yf: ∀ i,w4.frozen? ⟨w1.heap.size,i,none⟩ = false := fun i => frozen_of_row _ _ _ _ _ H5.out.n
       have yl: w1.heap.size < w4.heap.size := (Array.getElem?_eq_some_iff.1 H5.out.n).1
       have z0 := (node_cells H5.out.rw.z).1
       have z1 := (node_cells H5.out.rw.z).2.1
       have z2 := (node_cells H5.out.rw.z).2.2
       have zf: ∀ i,w4.frozen? ⟨w.heap.size,i,none⟩ = false := fun i => frozen_of_row _ _ _ _ _ H5.out.rw.z
       have e1 := set_far (p := w1.heap.size) (q := w.heap.size) (by omega)
       have e2 := set_far (p := w.heap.size) (q := w1.heap.size) (by omega)
       go_wp2_with fail
       refine to_letter (read_end (r := .slice none 0 0) H5.out xl hbn (World.ownsRow_nil _ _ _ _) HO5.out) ?_
       clear y0 y1 y2 yf yl z0 z1 z2 zf e1 e2 H5 HO5
       intro Wf hF
       obtain ⟨⟨g0,g1,g2,hB⟩,_,_⟩ := hF
       refine bodyPost_ret (v := .tuple #[.agg #[.bool true, .slice none 0 0, .slice x2 0 q2], .bool false]) ?_ rfl ?_
       · simp [results,Tryz.results129,go_sem,g0,g1,g2]
       · exact ⟨hB,Or.inr ⟨HN.out,_,_,_,_,rfl⟩⟩
   · have hend': 1024 < 3 + 4 * (cn: Int) := by omega
     have HN: Hid (¬ rawOk L) := fun h => by
      have := h.1
      unfold slotAt kidN at this
      rw [hlf,HC.out] at this
      simp at this
      omega
     go_wp2_with fail
     refine to_letter (read_fail H1.out (.bool false) (.slice none 0 0) (.slice none 0 0) _) ?_
     clear z0 z1 z2 zf H1 xl hc0
     intro Wf hF
     obtain ⟨g0,g1,g2,hF⟩ := hF
     refine bodyPost_ret (v := .tuple #[.agg #[.bool false, .slice none 0 0, .slice none 0 0], .bool false]) ?_ rfl ?_
     · simp [results,Tryz.results129,go_sem,g0,g1,g2]
     · exact ⟨hF,Or.inr ⟨HN.out,_,_,_,_,rfl⟩⟩
theorem cut_all {m: Nat} (L: List UInt8) (h: L.length = m): cut L 0 m = L := by
 subst h
 simp [cut]
theorem equal_walk {b1 b2 m: Nat} {L1 L2: List UInt8} {w: World} (h1: Blk w b1 L1) (h2: RBlk w b2 L2) (l1: L1.length = m) (l2: L2.length = m) (c1 c2: Nat) :
 Calls Tryz.prog 130 #[.slice (some ⟨b1,0,none⟩) m c1, .slice (some ⟨b2,0,none⟩) m c2] w fun e w' => e = .returned (.bool (L1 == L2)) /\ Below w.heap.size w w' := by
 have k1 := conv_blk h1 0 m c1 (by omega)
 have k2 := conv_rblk h2 0 m c2 (by omega)
 rw [cut_all _ l1] at k1
 rw [cut_all _ l2] at k2
 clear h1 h2
 go_enter Tryz.func130,Tryz.ntmps130
 go_wp2
 go_ret
 exact ⟨rfl,Below.refl _ _⟩
theorem raw_small {L: List UInt8} (hl: L.length = 1024) (h: rawOk L): (rawN L).small := by
 have h1 := h.1
 unfold slotAt at h1
 refine ⟨?_, ?_, ?_⟩
 · show (recsL L _ _).length <= 1000
   rw [recsL_length]; omega
 · show (kidsL L _ _).length <= 1000
   rw [kidsL_length]; omega
 · intro s hs
   obtain ⟨i,_,rfl⟩ := List.mem_map.1 (show s ∈ (List.range (cntL L)).map (recL L (slotAt L)) from hs)
   show (cut L _ _).toArray.size <= 5000
   have: (cut L (begL L (slotAt L) i) (lenL L (slotAt L) i)).length <= 1024 := by unfold cut; simp; omega
   simpa using Nat.le_trans this (by omega)
def pageOk (L: List UInt8): Prop := rawOk L /\ (rawN L).shaped = true /\ (rawN L).size <= 1024 /\ pageL (rawN L).toNd = L
structure Dz (w wr: World): Prop where
 below: Below w.heap.size w wr
 z: wr.heap[w.heap.size]? = some zNode
theorem Dz.on {w wr wr': World} (h: Dz w wr) (hb: Below wr.heap.size wr wr'): Dz w wr' :=
 ⟨h.below.trans (hb.mono h.below.size),(hb.block _ (Array.getElem?_eq_some_iff.1 h.z).1).trans h.z⟩
theorem Dz.new (w: World): Dz w (w.alloc zNode) := ⟨below_alloc _ _,heap_alloc_last _ _⟩
theorem Dz.out {w W: World} (h: Dz w W) (x y z: Value): ROut w x y z (put3 W w.heap.size x y z) := by
 obtain ⟨c0,c1,c2⟩ := node_cells (put3_block h.z x y z)
 exact ⟨c0,c1,c2,put3_below h.below (Nat.le_refl _) x y z⟩
theorem Dz.fail {w W: World} (h: Dz w W) (x y z: Value) (ob: Obj): ROut w x y z ((put3 W w.heap.size x y z).alloc ob) := by
 have hb: Below w.heap.size w (put3 W w.heap.size x y z) := put3_below h.below (Nat.le_refl _) x y z
 have hz := put3_block h.z x y z
 have ha := below_alloc (put3 W w.heap.size x y z) ob
 have hz2 := (ha.block _ (Array.getElem?_eq_some_iff.1 hz).1).trans hz
 obtain ⟨c0,c1,c2⟩ := node_cells hz2
 exact ⟨c0,c1,c2,hb.trans (ha.mono hb.size)⟩
theorem decode_no {a: Option Addr} {lb cap: Nat} {w: World} (h: lb ≠ 1024) :
 Calls Tryz.prog 106 #[.slice a lb cap] w fun e w' => Below w.heap.size w w' /\ e = .returned (.tuple #[.agg #[.bool false, .slice none 0 0, .slice none 0 0], .int .i64 16]) := by
 go_enter Tryz.func106,Tryz.ntmps106
 go_wp2_with fail
 refine (read_no h).mono ?_
 rintro e w1 ⟨B1,rfl⟩
 have H1: Hid (Dz w w1) := (Dz.new w).on B1
 clear B1
 have z0 := (node_cells H1.out.z).1
 have z1 := (node_cells H1.out.z).2.1
 have z2 := (node_cells H1.out.z).2.2
 have zf: ∀ i,w1.frozen? ⟨w.heap.size,i,none⟩ = false := fun i => frozen_of_row _ _ _ _ _ H1.out.z
 have xl: w.heap.size < w1.heap.size := (Array.getElem?_eq_some_iff.1 H1.out.z).1
 go_wp2_with fail
 refine to_letter (H1.out.fail (.bool false) (.slice none 0 0) (.slice none 0 0) _) ?_
 clear z0 z1 z2 zf H1 xl
 intro Wf hF
 obtain ⟨g0,g1,g2,hF⟩ := hF
 refine bodyPost_ret (v := .tuple #[.agg #[.bool false, .slice none 0 0, .slice none 0 0], .int .i64 16]) ?_ rfl ?_
 · simp [results,Tryz.results106,go_sem,g0,g1,g2]
 · exact ⟨hF,rfl⟩
structure Dx (w: World) (b: Nat) (L: List UInt8) (p: Nat) (x r k: Value) (wr: World): Prop where
 dz: Dz w wr
 n: wr.heap[p]? = some (.cells #[x,r,k] 69 (0,0))
 blk: RBlk wr b L
 o1: wr.ownsRow w.heap.size 9 1 r (cntL L) (svs (rawN L).recs)
 o2: wr.ownsRow w.heap.size 3 1 k (kidN L) (ivs (rawN L).kids)
theorem Dx.on {w: World} {b: Nat} {L: List UInt8} {p: Nat} {x r k: Value} {wr wr': World} (h: Dx w b L p x r k wr) (hb: Below wr.heap.size wr wr'): Dx w b L p x r k wr' :=
 ⟨h.dz.on hb,(hb.block _ (Array.getElem?_eq_some_iff.1 h.n).1).trans h.n,(hb.block b h.blk.lt).trans h.blk,owns_below h.o1 hb,owns_below h.o2 hb⟩
theorem Dx.out {w W: World} {b: Nat} {L: List UInt8} {p: Nat} {x r k: Value} (h: Dx w b L p x r k W): RRes w x r k (cntL L) (svs (rawN L).recs) (kidN L) (ivs (rawN L).kids) (put3 W w.heap.size x r k) :=
 ⟨h.dz.out x r k,owns_put3 h.o1 (by decide) h.dz.z x r k,owns_put3 h.o2 (by decide) h.dz.z x r k⟩
theorem decode_walk {b: Nat} {L: List UInt8} {w: World} (hb: RBlk w b L) (hl: L.length = 1024) :
 Calls Tryz.prog 106 #[.slice (some ⟨b,0,none⟩) 1024 1024] w fun e w' => Below w.heap.size w w' /\ ((pageOk L /\ ∃ r k,e = .returned (.tuple #[.agg #[.bool (leafB L),r,k], .int .i64 0]) /\ w'.ownsRow w.heap.size 9 1 r (cntL L) (svs (rawN L).recs) /\ w'.ownsRow w.heap.size 3 1 k (kidN L) (ivs (rawN L).kids)) \/ (¬ pageOk L /\ e = .returned (.tuple #[.agg #[.bool false, .slice none 0 0, .slice none 0 0], .int .i64 16]))) := by
 have HB: Hid (RBlk w b L) := hb
 have HL: Hid (L.length = 1024) := hl
 clear hb hl
 go_enter Tryz.func106,Tryz.ntmps106
 go_wp2_with fail
 have H0: Hid (Dz w (w.alloc (.cells #[.bool false, .slice none 0 0, .slice none 0 0] 69))) := Dz.new w
 refine (read_walk (L := L) (((below_alloc w _).block b HB.out.lt).trans HB.out) HL.out).mono ?_
 rintro e w1 ⟨B1,⟨hok,r,k,rfl,O1,O2⟩ | ⟨hok,lf,x,m,q,rfl⟩⟩
 · obtain ⟨x1,q1,rfl,R1,_,_⟩ := owns_rd O1
   obtain ⟨x2,q2,rfl,R2,_,_⟩ := owns_rd O2
   have H1: Hid (Dz w w1) := H0.out.on B1
   have HO1 := hidd (owns_base O1 H0.out.below.size)
   have HO2 := hidd (owns_base O2 H0.out.below.size)
   have HR: Hid (NR w1 (rawN L) x1 q1 x2 q2) := ⟨R1,R2⟩
   have HS := hidd (raw_small HL.out hok)
   clear B1 O1 O2 R1 R2 H0
   have z0 := (node_cells H1.out.z).1
   have z1 := (node_cells H1.out.z).2.1
   have z2 := (node_cells H1.out.z).2.2
   have zf: ∀ i,w1.frozen? ⟨w.heap.size,i,none⟩ = false := fun i => frozen_of_row _ _ _ _ _ H1.out.z
   have xl: w.heap.size < w1.heap.size := (Array.getElem?_eq_some_iff.1 H1.out.z).1
   go_wp2_with fail
   have B0 := below_alloc w1 (.cells #[.bool (leafB L), .slice x1 (cntL L) q1, .slice x2 (kidN L) q2] 69)
   have H2: Hid (Dx w b L w1.heap.size (.bool (leafB L)) (.slice x1 (cntL L) q1) (.slice x2 (kidN L) q2) (w1.alloc (.cells #[.bool (leafB L), .slice x1 (cntL L) q1, .slice x2 (kidN L) q2] 69))) :=
    ⟨H1.out.on B0,heap_alloc_last _ _,(B0.block b (by have := HB.out.lt; omega)).trans ((H1.out.below.block b HB.out.lt).trans HB.out),owns_below HO1.out B0,owns_below HO2.out B0⟩
   have HR2 := hidd (HR.out.below B0)
   clear HR B0 HO1 HO2 H1 z0 z1 z2 zf
   have ev: Value.agg #[.bool (leafB L), .slice x1 (cntL L) q1, .slice x2 (kidN L) q2] = nodeV (rawN L) x1 q1 x2 q2 := by
    have e1: (rawN L).recs.length = cntL L := recsL_length _ _ _
    have e2: (rawN L).kids.length = kidN L := kidsL_length _ _ _
    unfold nodeV
    rw [e1,e2]
    rfl
   have HEN := hidd (fun h => encode_no HR2.out HS.out h)
   have HEL := hidd (fun h h2 => encode_long HR2.out HS.out h h2)
   have HEO := hidd (fun h h2 => encode_ok HR2.out HS.out h h2)
   rw [<- ev] at HEN HEL HEO
   clear ev HR2
   generalize w1.alloc (.cells #[.bool (leafB L), .slice x1 (cntL L) q1, .slice x2 (kidN L) q2] 69) = w2 at H2 HEN HEL HEO ⊢
   generalize w1.heap.size = pn at H2 xl ⊢
   cases hsh: (rawN L).shaped
   · have HN: Hid (¬ pageOk L) := fun h => by have := h.2.1; rw [hsh] at this; cases this
     refine (HEN.out hsh).mono ?_
     rintro e w3 ⟨rfl,B3⟩
     have H3 := hidd (H2.out.on B3)
     clear H2 HEN HEL HEO xl B3
     have z0 := (node_cells H3.out.dz.z).1
     have z1 := (node_cells H3.out.dz.z).2.1
     have z2 := (node_cells H3.out.dz.z).2.2
     have zf: ∀ i,w3.frozen? ⟨w.heap.size,i,none⟩ = false := fun i => frozen_of_row _ _ _ _ _ H3.out.dz.z
     have xl: w.heap.size < w3.heap.size := (Array.getElem?_eq_some_iff.1 H3.out.dz.z).1
     go_wp2_with fail
     refine to_letter (H3.out.dz.out (.bool false) (.slice none 0 0) (.slice none 0 0)) ?_
     clear z0 z1 z2 zf H3 xl
     intro Wf hF
     obtain ⟨g0,g1,g2,hF⟩ := hF
     refine bodyPost_ret (v := .tuple #[.agg #[.bool false, .slice none 0 0, .slice none 0 0], .int .i64 16]) ?_ rfl ?_
     · simp [results,Tryz.results106,go_sem,g0,g1,g2]
     · exact ⟨hF,Or.inr ⟨HN.out,rfl⟩⟩
   by_cases hsz: 1024 < (rawN L).size
   · have HN: Hid (¬ pageOk L) := fun h => by have := h.2.2.1; omega
     refine (HEL.out hsh hsz).mono ?_
     rintro e w3 ⟨rfl,B3⟩
     have H3 := hidd (H2.out.on B3)
     clear H2 HEN HEL HEO xl B3
     have z0 := (node_cells H3.out.dz.z).1
     have z1 := (node_cells H3.out.dz.z).2.1
     have z2 := (node_cells H3.out.dz.z).2.2
     have zf: ∀ i,w3.frozen? ⟨w.heap.size,i,none⟩ = false := fun i => frozen_of_row _ _ _ _ _ H3.out.dz.z
     have xl: w.heap.size < w3.heap.size := (Array.getElem?_eq_some_iff.1 H3.out.dz.z).1
     go_wp2_with fail
     refine to_letter (H3.out.dz.out (.bool false) (.slice none 0 0) (.slice none 0 0)) ?_
     clear z0 z1 z2 zf H3 xl
     intro Wf hF
     obtain ⟨g0,g1,g2,hF⟩ := hF
     refine bodyPost_ret (v := .tuple #[.agg #[.bool false, .slice none 0 0, .slice none 0 0], .int .i64 16]) ?_ rfl ?_
     · simp [results,Tryz.results106,go_sem,g0,g1,g2]
     · exact ⟨hF,Or.inr ⟨HN.out,rfl⟩⟩
   · refine (HEO.out hsh (by omega)).mono ?_
     rintro e w3 ⟨b3,rfl,hb3,K3,B3⟩
     have H3 := hidd (H2.out.on B3)
     have HK3 := hidd K3
     have hln: (pageL (rawN L).toNd).length = 1024 := pageL_length (by rw [toNd_size]; omega)
     clear H2 HEN HEL HEO xl B3 K3
     go_wp2_with fail
     refine (equal_walk HK3.out H3.out.blk hln HL.out 1024 1024).mono ?_
     rintro e w4 ⟨rfl,B4⟩
     have H4 := hidd (H3.out.on B4)
     clear H3 HK3 B4
     have z0 := (node_cells H4.out.dz.z).1
     have z1 := (node_cells H4.out.dz.z).2.1
     have z2 := (node_cells H4.out.dz.z).2.2
     have zf: ∀ i,w4.frozen? ⟨w.heap.size,i,none⟩ = false := fun i => frozen_of_row _ _ _ _ _ H4.out.dz.z
     have xl: w.heap.size < w4.heap.size := (Array.getElem?_eq_some_iff.1 H4.out.dz.z).1
     by_cases heq: pageL (rawN L).toNd = L
     · have hbe: (pageL (rawN L).toNd == L) = true := by simpa using heq
       have y0 := (node_cells H4.out.n).1
       have y1 := (node_cells H4.out.n).2.1
       have y2 := (node_cells H4.out.n).2.2
       have yl: pn < w4.heap.size := (Array.getElem?_eq_some_iff.1 H4.out.n).1
       rw [hbe]
       go_wp2_with fail
       refine to_letter H4.out.out ?_
       clear y0 y1 y2 yl z0 z1 z2 zf H4
       intro Wf hF
       obtain ⟨⟨g0,g1,g2,hB⟩,r1,r2⟩ := hF
       refine bodyPost_ret (v := .tuple #[.agg #[.bool (leafB L), .slice x1 (cntL L) q1, .slice x2 (kidN L) q2], .int .i64 0]) ?_ rfl ?_
       · simp [results,Tryz.results106,go_sem,g0,g1,g2]
       · exact ⟨hB,Or.inl ⟨⟨hok,hsh,by omega,heq⟩,_,_,rfl,r1,r2⟩⟩
     · have hbe: (pageL (rawN L).toNd == L) = false := by simpa using heq
       have HN: Hid (¬ pageOk L) := fun h => heq h.2.2.2
       rw [hbe]
       go_wp2_with fail
       refine to_letter (H4.out.dz.out (.bool false) (.slice none 0 0) (.slice none 0 0)) ?_
       clear z0 z1 z2 zf H4 xl
       intro Wf hF
       obtain ⟨g0,g1,g2,hF⟩ := hF
       refine bodyPost_ret (v := .tuple #[.agg #[.bool false, .slice none 0 0, .slice none 0 0], .int .i64 16]) ?_ rfl ?_
       · simp [results,Tryz.results106,go_sem,g0,g1,g2]
       · exact ⟨hF,Or.inr ⟨HN.out,rfl⟩⟩
 · have H1: Hid (Dz w w1) := H0.out.on B1
   have HN: Hid (¬ pageOk L) := fun h => hok h.1
   clear H0 B1
   have z0 := (node_cells H1.out.z).1
   have z1 := (node_cells H1.out.z).2.1
   have z2 := (node_cells H1.out.z).2.2
   have zf: ∀ i,w1.frozen? ⟨w.heap.size,i,none⟩ = false := fun i => frozen_of_row _ _ _ _ _ H1.out.z
   have xl: w.heap.size < w1.heap.size := (Array.getElem?_eq_some_iff.1 H1.out.z).1
   go_wp2_with fail
   refine to_letter (H1.out.fail (.bool false) (.slice none 0 0) (.slice none 0 0) _) ?_
   clear z0 z1 z2 zf H1 xl
   intro Wf hF
   obtain ⟨g0,g1,g2,hF⟩ := hF
   refine bodyPost_ret (v := .tuple #[.agg #[.bool false, .slice none 0 0, .slice none 0 0], .int .i64 16]) ?_ rfl ?_
   · simp [results,Tryz.results106,go_sem,g0,g1,g2]
   · exact ⟨hF,Or.inr ⟨HN.out,rfl⟩⟩
theorem byteAt_get (L: List UInt8) (i: Nat) (h: i < L.length): byteAt L i = L[i].toNat := by
 unfold byteAt
 rw [List.getD_eq_getElem?_getD,List.getElem?_eq_getElem h]
 rfl
theorem cut_zero (L: List UInt8) (i: Nat): cut L i 0 = [] := by simp [cut]
theorem num2_at (L: List UInt8) (i: Nat) (h: i + 2 <= L.length): numL (cut L i 2) = at2 L i := by
 rw [cut_snoc L i 1 (by omega),numL_snoc,cut_snoc L i 0 (by omega),numL_snoc,cut_zero]
 unfold at2
 rw [byteAt_get L i (by omega),byteAt_get L (i + 1) (by omega)]
 simp [numL]
theorem num4_at (L: List UInt8) (i: Nat) (h: i + 4 <= L.length): numL (cut L i 4) = at4 L i := by
 rw [cut_snoc L i 3 (by omega),numL_snoc,cut_snoc L i 2 (by omega),numL_snoc,cut_snoc L i 1 (by omega),numL_snoc,cut_snoc L i 0 (by omega),numL_snoc,cut_zero]
 unfold at4
 rw [byteAt_get L i (by omega),byteAt_get L (i + 1) (by omega),byteAt_get L (i + 2) (by omega),byteAt_get L (i + 3) (by omega)]
 simp [numL]
theorem cnt_at {L: List UInt8} (hl: L.length = 1024): cntL L = at2 L 1 := num2_at L 1 (by omega)
theorem slot_at {L: List UInt8} (hl: L.length = 1024): slotAt L = if byteAt L 0 == 1 then 3 else 3 + 4 * (at2 L 1 + 1) := by
 unfold slotAt kidN leafB
 rw [cnt_at hl]
 split <;> simp
theorem raw_read {L: List UInt8} (hl: L.length = 1024) (h: slotAt L + 4 * cntL L <= 1024): (rawN L).toNd = readNd L := by
 have hc := cnt_at hl
 have hs := slot_at hl
 have e1: (recsL L (slotAt L) (cntL L)).map (fun s => s.data.toList) = (List.range (at2 L 1)).map fun i => cut L (at2 L (slotAt L + 4 * i)) (at2 L (slotAt L + 4 * i + 2)) := by
  unfold recsL
  rw [List.map_map,hc]
  refine List.map_congr_left fun i hi => ?_
  have hi': i < at2 L 1 := List.mem_range.1 hi
  have b1: begL L (slotAt L) i = at2 L (slotAt L + 4 * i) := num2_at L _ (by omega)
  have b2: lenL L (slotAt L) i = at2 L (slotAt L + 4 * i + 2) := num2_at L _ (by omega)
  show (cut L (begL L (slotAt L) i) (lenL L (slotAt L) i)).toArray.toList = _
  rw [b1,b2]
 have e2: (kidsL L 3 (kidN L)).map Int.toNat = if byteAt L 0 == 1 then [] else (List.range (at2 L 1 + 1)).map fun i => at4 L (3 + 4 * i) := by
  unfold kidsL
  rw [List.map_map]
  have hk: kidN L = if byteAt L 0 == 1 then 0 else at2 L 1 + 1 := by unfold kidN leafB; rw [hc]
  have hle: 3 + 4 * kidN L <= 1024 := by unfold slotAt at h; omega
  have: (List.range (kidN L)).map (Int.toNat ∘ fun i => (numL (cut L (3 + 4 * i) 4): Int)) = (List.range (kidN L)).map fun i => at4 L (3 + 4 * i) := by
   refine List.map_congr_left fun i hi => ?_
   have hi': i < kidN L := List.mem_range.1 hi
   show (numL (cut L (3 + 4 * i) 4): Int).toNat = _
   rw [num4_at L _ (by omega)]
   simp
  rw [this,hk]
  split <;> simp
 unfold No.toNd readNd
 show (⟨leafB L,(recsL L (slotAt L) (cntL L)).map (fun s => s.data.toList),(kidsL L 3 (kidN L)).map Int.toNat⟩: Nd) = _
 rw [e1,e2,hs]
 rfl
theorem shaped_toNd {n: No} (h: n.shaped = true): n.toNd.Shaped := by
 unfold No.shaped at h
 simp only [Bool.and_eq_true,List.all_eq_true,List.mem_range,beq_iff_eq] at h
 obtain ⟨⟨h1,h2⟩,h3⟩ := h
 refine ⟨?_, ?_, ?_⟩
 · show (n.kids.map Int.toNat).length = if n.leaf then 0 else (n.recs.map (·.data.toList)).length + 1
   simpa using h3
 · intro k hk
   obtain ⟨x,hx,rfl⟩ := List.mem_map.1 (show k ∈ n.kids.map Int.toNat from hk)
   have := h2 x hx
   unfold kidOk at this
   simp at this
   omega
 · intro r hr
   obtain ⟨s,hs,rfl⟩ := List.mem_map.1 (show r ∈ n.recs.map (·.data.toList) from hr)
   obtain ⟨i,hi,rfl⟩ := List.getElem_of_mem hs
   have := h1 i hi
   unfold recOk at this
   rw [List.getElem?_eq_getElem hi] at this
   simp at this
   have e: (n.recs[i]).data.toList.length = (n.recs[i]).size := by simp
   omega
theorem toNd_inj {n m: No} (hn: ∀ k ∈ n.kids,0 <= k) (hm: ∀ k ∈ m.kids,0 <= k) (h: n.toNd = m.toNd): n = m := by
 have h1: n.leaf = m.leaf := congrArg Nd.leaf h
 have h2: n.recs.map (fun s => s.data.toList) = m.recs.map (fun s => s.data.toList) := congrArg Nd.recs h
 have h3: n.kids.map Int.toNat = m.kids.map Int.toNat := congrArg Nd.kids h
 have e2: n.recs = m.recs := by
  have := congrArg (List.map fun l: List UInt8 => (⟨l.toArray⟩: ByteArray)) h2
  simpa [List.map_map,Function.comp_def] using this
 have e3: n.kids = m.kids := by
  have := congrArg (List.map fun l: Nat => (l: Int)) h3
  rw [List.map_map,List.map_map] at this
  have f: ∀ l: List Int,(∀ k ∈ l,0 <= k) -> l.map ((fun l: Nat => (l: Int)) ∘ Int.toNat) = l := fun l hl => by
   conv => rhs; rw [<- List.map_id l]
   refine List.map_congr_left fun k hk => ?_
   have := hl k hk
   show ((k.toNat: Nat): Int) = k
   omega
  rwa [f _ hn,f _ hm] at this
 cases n; cases m
 simp_all
theorem raw_page {n: No} (h: n.shaped = true) (hs: n.size <= 1024): pageOk (pageL n.toNd) /\ rawN (pageL n.toNd) = n := by
 have hS := shaped_toNd h
 have hz: n.toNd.size <= 1024 := by rw [toNd_size]; exact hs
 have hl := pageL_length hz
 obtain ⟨p1,p2,p3,p4⟩ := read_page hS hz
 have hk: n.toNd.kids.length = n.kids.length := by simp [No.toNd]
 have hr: n.toNd.recs.length = n.recs.length := by simp [No.toNd]
 have hc: cntL (pageL n.toNd) = n.recs.length := by rw [cnt_at hl,p3,hr]
 have hsl: slotAt (pageL n.toNd) = 3 + 4 * n.toNd.kids.length := by
  rw [slot_at hl,p2,p3,hS.kids]
  cases n.toNd.leaf <;> simp
 have hb: slotAt (pageL n.toNd) + 4 * cntL (pageL n.toNd) <= 1024 := by
  rw [hsl,hc]
  have: n.toNd.size = 3 + 4 * n.toNd.kids.length + (4 * n.toNd.recs.length + lens n.toNd.recs) := rfl
  omega
 have hraw: rawN (pageL n.toNd) = n := by
  refine toNd_inj ?_ ?_ (by rw [raw_read hl hb,p1])
  · intro k hk
    obtain ⟨i,_,rfl⟩ := List.mem_map.1 (show k ∈ (List.range (kidN (pageL n.toNd))).map fun i => (numL (cut (pageL n.toNd) (3 + 4 * i) 4): Int) from hk)
    omega
  · intro k hk
    unfold No.shaped at h
    simp only [Bool.and_eq_true,List.all_eq_true] at h
    have := h.1.2 k hk
    unfold kidOk at this
    simp at this
    omega
 refine ⟨⟨⟨hb,fun i hi => ?_⟩,by rw [hraw]; exact h,by rw [hraw]; exact hs,by rw [hraw]⟩,hraw⟩
 rw [hc] at hi
 have := p4 i (by omega)
 unfold begL lenL
 rw [num2_at _ _ (by omega),num2_at _ _ (by omega),hsl,hl]
 exact this
theorem owns_at {W: World} {b: Nat} {e: TypeId} {v: Value} {n: Nat} {xs: List Value} (h: W.ownsRow b e 1 v n xs): ∃ a cap,v = .slice a n cap := by
 obtain ⟨a,cap,h1,_⟩ := owns_rd h
 exact ⟨a,cap,h1⟩
theorem owns_rd_slice {W: World} {b: Nat} {e: TypeId} {a: Option Addr} {c n: Nat} {xs: List Value} (h: W.ownsRow b e 1 (.slice a n c) n xs): Rd W a c xs := by
 obtain ⟨a',c',e',hr,_⟩ := owns_rd h
 cases e'
 exact hr
theorem decode_page {b: Nat} {n: No} {w: World} (hb: RBlk w b (pageL n.toNd)) (hs: n.shaped = true) (hz: n.size <= 1024) :
 Calls Tryz.prog 106 #[.slice (some ⟨b,0,none⟩) 1024 1024] w fun e w' => ∃ a c a' c',e = .returned (.tuple #[nodeV n a c a' c', .int .i64 0]) /\ w'.ownsRow w.heap.size 9 1 (.slice a n.recs.length c) n.recs.length (svs n.recs) /\ w'.ownsRow w.heap.size 3 1 (.slice a' n.kids.length c') n.kids.length (ivs n.kids) /\ Below w.heap.size w w' := by
 obtain ⟨hok,hraw⟩ := raw_page hs hz
 refine (decode_walk hb (pageL_length (by rw [toNd_size]; exact hz))).mono ?_
 rintro e w' ⟨B,⟨_,r,k,rfl,o1,o2⟩ | ⟨hno,_⟩⟩
 · have e1: leafB (pageL n.toNd) = n.leaf := congrArg No.leaf hraw
   rw [hraw] at o1 o2
   have l1 := o1.1
   have l2 := o2.1
   rw [svs_length,Nat.mul_one] at l1
   rw [ivs_length,Nat.mul_one] at l2
   rw [<- l1] at o1
   rw [<- l2] at o2
   obtain ⟨a,c,rfl⟩ := owns_at o1
   obtain ⟨a',c',rfl⟩ := owns_at o2
   exact ⟨a,c,a',c',by rw [e1]; rfl,o1,o2,B⟩
 · exact absurd hok hno
theorem conv_row {W: World} {B: Nat} {v: Value} {m: Nat} {L: List UInt8} (h: W.ownsRow B 5 1 v m (bcs L)) (hl: L.length = m) (h0: 0 < m): (convert 81 9 v).run Tryz.prog W = .ok (.string ⟨L.toArray⟩) W := by
 obtain ⟨ad,cap,rfl,hr,_,_⟩ := owns_rd h
 subst hl
 match L,hr with
 | [],_ => exact absurd h0 (Nat.lt_irrefl 0)
 | x :: L,hr =>
  obtain ⟨b,o,rfl,_,_⟩ := hr.2.2 0 _ rfl
  exact run_convert_bytes_back (P := Tryz.prog) W 81 9 5 ⟨b,o,none⟩ cap (x :: L) Tryz.underlying81 Tryz.underlying5 Tryz.underlying9 (fun j hj => by
   obtain ⟨b',o',e,_,hc⟩ := hr.2.2 j (.int .u8 ((x :: L)[j].toNat: Int)) (by unfold bcs; rw [List.getElem?_map,List.getElem?_eq_getElem hj]; rfl)
   cases e
   rw [show (⟨b,o,none⟩: Addr).add j = ⟨b,o + j,none⟩ by unfold Addr.add; split <;> simp_all]
   exact hc)
end Go.Proofs.YtdnkbdjhccckhaaGreat.L5
