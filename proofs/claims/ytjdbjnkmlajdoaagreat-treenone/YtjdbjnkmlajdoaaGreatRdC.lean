/-
  readRecs: the entries of a row of slots.
-/
import Derived.Test.YtjdbjnkmlajdoaaGreatRdB
namespace Go.Proofs.YtjdbjnkmlajdoaaGreat.L5
open Go.RowKit

/-- Where the entry of the slot i begins, how long it is. -/
def begL (L : List UInt8) (o i : Nat) : Nat := numL (cut L (o + 4 * i) 2)
def lenL (L : List UInt8) (o i : Nat) : Nat := numL (cut L (o + 4 * i + 2) 2)
def recL (L : List UInt8) (o i : Nat) : ByteArray := ⟨(cut L (begL L o i) (lenL L o i)).toArray⟩
def recsL (L : List UInt8) (o j : Nat) : List ByteArray := (List.range j).map (recL L o)
def inL (L : List UInt8) (o j : Nat) : Prop := ∀ i, i < j → begL L o i + lenL L o i ≤ L.length

theorem recsL_length (L : List UInt8) (o j : Nat) : (recsL L o j).length = j := by simp [recsL]

theorem recsL_snoc (L : List UInt8) (o j : Nat) : recsL L o (j + 1) = recsL L o j ++ [recL L o j] := by
  unfold recsL
  rw [List.range_succ, List.map_append]
  rfl

theorem num2_lt (L : List UInt8) (o : Nat) : numL (cut L o 2) < 65536 := by
  have h := numL_lt (cut L o 2) 0
  have hl : (cut L o 2).length ≤ 2 := by unfold cut; simp; omega
  refine Nat.lt_of_lt_of_le (show numL (cut L o 2) < 1 * 256 ^ (cut L o 2).length by simpa [numL] using h) ?_
  rw [Nat.one_mul]
  exact Nat.pow_le_pow_right (by decide) hl

/-- The row so far. -/
structure Rr (w : World) (b : Nat) (L : List UInt8) (l : List ByteArray) (v : Value) (wr : World) : Prop where
  below : Below w.heap.size w wr
  row : wr.ownsRow w.heap.size 9 1 v l.length (svs l)
  blk : RBlk wr b L

theorem Rr.on {w : World} {b : Nat} {L : List UInt8} {l : List ByteArray} {v : Value} {wr wr' : World} (h : Rr w b L l v wr) (hb : Below wr.heap.size wr wr') : Rr w b L l v wr' :=
  ⟨h.below.trans (hb.mono h.below.size), owns_below h.row hb, (hb.block b h.blk.lt).trans h.blk⟩

theorem Rr.grow {w : World} {b : Nat} {L : List UInt8} {l l' : List ByteArray} {v v' : Value} {wr w' : World} (h : Rr w b L l v wr) (hw : RBlk w b L) (hg : wr.grownBy w' v.ownBlock) {m : Nat} (hm : m = l'.length) (ho : w'.ownsRow w.heap.size 9 1 v' m (svs l')) : Rr w b L l' v' w' := by
  subst hm
  have hb : Below w.heap.size w w' := h.below.grown hg h.below.size (fun k hk => (h.row.lt k hk).1)
  exact ⟨hb, ho, (hb.block b hw.lt).trans hw⟩

theorem one_str (W : World) (x : ByteArray) (t : TypeId) : ∀ i u, (svs [x])[i]? = some u → (W.alloc (.cells #[.string x] t)).cell? ((⟨W.heap.size, 0, none⟩ : Addr).add i) = some u := by
  intro i u h
  have hi : i = 0 := by
    have := (List.getElem?_eq_some_iff.1 h).1
    simpa [svs] using this
  subst hi
  simp [svs] at h
  subst h
  simp [go_sem]

set_option maxRecDepth 100000 in
set_option maxHeartbeats 400000 in
theorem readRecs_walk {b o m cap capb k lb : Nat} {L : List UInt8} {w : World} (hb : RBlk w b L) (hlb : lb = L.length) (hk : m = 4 * k) (hkk : k ≤ 10000) (hcap : m ≤ cap) (hl : o + m ≤ lb) (hc : cap ≤ 9223372036854775807) (hcb : lb ≤ capb) (hcb2 : capb ≤ 9223372036854775807) :
    Calls Tryz.prog 148 #[.slice (some ⟨b, 0, none⟩) lb capb, .slice (some ⟨b, o, none⟩) m cap] w fun e w' => Below w.heap.size w w' ∧ ((inL L o k ∧ ∃ v, e = .returned (.tuple #[v, .bool true]) ∧ w'.ownsRow w.heap.size 9 1 v k (svs (recsL L o k))) ∨ (¬ inL L o k ∧ e = .returned (.tuple #[.slice none 0 0, .bool false]))) := by
  have HB : Hid (RBlk w b L) := hb
  clear hb
  go_enter Tryz.func148, Tryz.ntmps148
  have hdiv : (m : Int) / 4 = (k : Int) := by omega
  have HK : Hid (m = 4 * k) := hk
  have HL : Hid (lb = L.length) := hlb
  clear hk hlb
  go_wp2
  go_loopw [6, 14] (fun v i wr => ∃ j : Nat, j ≤ k ∧ i = .int .i64 (j : Int) ∧ Hid (inL L o j) ∧ Hid (Rr w b L (recsL L o j) v wr)) (fun _ i _ => k - (intOf i).toNat)
  case atStart => exact ⟨0, Nat.zero_le _, rfl, (fun i hi => absurd hi (Nat.not_lt_zero _)), ⟨Below.refl _ _, ⟨rfl, Or.inl ⟨rfl, rfl⟩⟩, HB.out⟩⟩
  case round =>
    obtain ⟨j, hj, rfl, HI, HO⟩ := hrel
    by_cases hlt : j < k
    · have hlt' : (j : Int) < (k : Int) := by omega
      have hm4 : 4 * (j + 1) ≤ m := by rw [HK.out]; omega
      have h0 : (0 : Int) ≤ 4 * (j : Int) := by omega
      have h1 : 4 * (j : Int) ≤ 4 * ((j : Int) + 1) := by omega
      have h2 : 4 * ((j : Int) + 1) ≤ (cap : Int) := by omega
      have h4 : 4 * (j + 1) - 4 * j = 4 := by omega
      have h5 : (2 : Int) ≤ ((cap - 4 * j : Nat) : Int) := by omega
      have h6 : 2 ≤ cap - 4 * j := by omega
      go_wp2_with fail
      refine (number_walk (L := L) HO.out.blk (by omega) (by have := HL.out; omega)).mono ?_
      rintro e w5 ⟨rfl, B5⟩
      have HO5 : Hid (Rr w b L (recsL L o j) u6 w5) := HO.out.on B5
      clear HO B5
      rw [h4]
      have hp5 := num2_lt L (o + 4 * j)
      have HP : Hid (begL L o j = numL (cut L (o + 4 * j) 2)) := rfl
      generalize numL (cut L (o + 4 * j) 2) = p at hp5 HP ⊢
      go_wp2_with fail
      refine (number_walk (L := L) (o := o + 4 * j + 2) HO5.out.blk (by omega) (by have := HL.out; omega)).mono ?_
      rintro e w6 ⟨rfl, B6⟩
      have HO6 : Hid (Rr w b L (recsL L o j) u6 w6) := HO5.out.on B6
      clear HO5 B6
      have hq6 := num2_lt L (o + 4 * j + 2)
      have HQ : Hid (lenL L o j = numL (cut L (o + 4 * j + 2) 2)) := rfl
      generalize numL (cut L (o + 4 * j + 2) 2) = q at hq6 HQ ⊢
      by_cases hpq : p + q ≤ lb
      · have hpq' : (p : Int) + (q : Int) ≤ (lb : Int) := by omega
        have hpq2 : (p : Int) + (q : Int) ≤ (capb : Int) := by omega
        have hp0 : (p : Int) ≤ (p : Int) + (q : Int) := by omega
        have hcv : (convert 103 9 (.slice (some ⟨b, p, none⟩) q (capb - p))).run Tryz.prog w6 = .ok (.string ⟨(cut L p q).toArray⟩) w6 := conv_rblk HO6.out.blk p q (capb - p) (by have := HL.out; omega)
        have HS : Hid (recL L o j = ⟨(cut L p q).toArray⟩) := by show recL L o j = _; unfold recL; rw [HP.out, HQ.out]
        have HIj : Hid (inL L o (j + 1)) := fun i hi => by
          by_cases e : i = j
          · subst e; rw [HP.out, HQ.out, ← HL.out]; exact hpq
          · exact HI.out i (by omega)
        have hcv0 : q = 0 → (convert 103 9 (.slice (some ⟨b, 0, none⟩) 0 0)).run Tryz.prog w6 = .ok (.string ⟨(cut L p q).toArray⟩) w6 := fun h => by
          have := conv_rblk HO6.out.blk 0 0 0 (by omega)
          rw [this, h]
          simp [cut]
        generalize (⟨(cut L p q).toArray⟩ : ByteArray) = S at hcv hcv0 HS
        have HO7 : Hid (Rr w b L (recsL L o j) u6 (w6.alloc (.cells #[.string S] 9))) := HO6.out.on (below_alloc _ _)
        by_cases hcp : capb = p
        · have hq0 : q = 0 := by omega
          have hcv1 := hcv0 hq0
          clear hcv0 hcv
          subst hcp
          subst hq0
          go_wp2_with (first
            | (at_builtin
               revert HO7)
            | fail)
          intro HO7
          refine append_row (z := .string ⟨#[]⟩) (by_ := 16) Tryz.underlying33 (by kernel_rfl) (by decide) rfl w.heap.size HO7.out.below.size rfl _ _ rfl u6 (recsL L o j).length (svs (recsL L o j)) (svs [S]) rfl HO7.out.row (by rw [recsL_length]; omega) 1 (by omega) ⟨w6.heap.size, 0, none⟩ 1 rfl rfl (one_str w6 _ _) (one_svs _) ?_
          intro v' W' hown hg _
          have HO8 : Hid (Rr w b L (recsL L o (j + 1)) v' W') := HO7.out.grow HB.out hg (m := (recsL L o j).length + 1) (by rw [recsL_length, recsL_length]) (by rw [recsL_snoc, HS.out]; unfold svs at hown ⊢; rw [List.map_append]; exact hown)
          clear hown hg HO7 HO6
          go_wp2
          exact ⟨⟨j + 1, by omega, by go_num, HIj, HO8⟩, by simp [intOf]; omega⟩
        · clear hcv0
          go_wp2_with (first
            | (at_builtin
               revert HO7)
            | fail)
          intro HO7
          refine append_row (z := .string ⟨#[]⟩) (by_ := 16) Tryz.underlying33 (by kernel_rfl) (by decide) rfl w.heap.size HO7.out.below.size rfl _ _ rfl u6 (recsL L o j).length (svs (recsL L o j)) (svs [S]) rfl HO7.out.row (by rw [recsL_length]; omega) 1 (by omega) ⟨w6.heap.size, 0, none⟩ 1 rfl rfl (one_str w6 _ _) (one_svs _) ?_
          intro v' W' hown hg _
          have HO8 : Hid (Rr w b L (recsL L o (j + 1)) v' W') := HO7.out.grow HB.out hg (m := (recsL L o j).length + 1) (by rw [recsL_length, recsL_length]) (by rw [recsL_snoc, HS.out]; unfold svs at hown ⊢; rw [List.map_append]; exact hown)
          clear hown hg HO7 HO6
          go_wp2
          exact ⟨⟨j + 1, by omega, by go_num, HIj, HO8⟩, by simp [intOf]; omega⟩
      · have hpq' : (lb : Int) < (p : Int) + (q : Int) := by omega
        have HN : Hid (¬ inL L o k) := fun h => hpq (by have := h j hlt; rw [HP.out, HQ.out, ← HL.out] at this; exact this)
        go_wp2
        go_ret2
        exact ⟨HO6.out.below, Or.inr ⟨HN.out, rfl⟩⟩
    · have hlt' : (k : Int) ≤ (j : Int) := by omega
      have hjm : j = k := by omega
      subst hjm
      go_wp2
      go_ret2
      exact ⟨HO.out.below, Or.inl ⟨HI.out, _, rfl, by have := HO.out.row; rwa [recsL_length] at this⟩⟩
end Go.Proofs.YtjdbjnkmlajdoaaGreat.L5
