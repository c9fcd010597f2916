/-
  TreeRanges: the two functions that Each is given; what they come to on a rising list.
-/
import Derived.Test.YtfdfamjajhmihaaGreatMBY
import Derived.Test.YtfdfamjajhmihaaGreatMBT
import Derived.Test.YtfdfamjajhmihaaGreatMBZ
import Derived.Test.YtfdfamjajhmihaaGreatMBL
import Derived.Deep.RegionHeld
import Derived.Lib.MinMax
namespace Go.Proofs.YtfdfamjajhmihaaGreat
open Go.RowKit
open L4 (Ar ArP Abs arV nv)
open L5 (ltP ltB leB)

set_option maxRecDepth 100000 in
set_option maxHeartbeats 1000000 in
theorem r1_any {o : Nat} {v : Value} {xs : List ByteArray} {s : ByteArray} {w : World} (k : (lstSt o).P (v, xs) w) (hx : xs.length ≤ 100000) :
    Calls Tryz.prog 26 #[.string s, .pointer (some ⟨o, 0, none⟩)] w fun e w' => e = .returned (.bool true) ∧ ∃ v', (lstSt o).P (v', xs ++ [s]) w' ∧ L4.Moves (lstSt o) (v, xs) (v', xs ++ [s]) w w' := by
  have HK := thid k
  have ol := (Array.getElem?_eq_some_iff.1 k.1).1
  have c0 : w.cell? ⟨o, 0, none⟩ = some v := by rw [cell_of_row _ _ _ _ _ _ k.1]; rfl
  have hf : ∀ i, w.frozen? ⟨o, i, none⟩ = false := fun i => frozen_of_row _ _ _ _ _ k.1
  have k2 : w.ownsRow 0 9 1 v xs.length (L5.svs xs) := k.2
  obtain ⟨va, vc, rfl⟩ := own_slice k2
  clear k k2
  go_enter Tryz.func26, Tryz.ntmps26
  have HB1 := thid (tbelow w (.cells #[.string s] 9))
  go_wp2_with (first
    | (at_builtin
       revert HB1)
    | fail)
  intro HB1
  have HK1 := thid ((lstSt o).below HK.out HB1.out)
  refine L5.append_row (z := .string ⟨#[]⟩) (by_ := 16) Tryz.underlying33 (by kernel_rfl) (by decide) rfl 0 (Nat.zero_le _) rfl _ _ rfl (.slice va xs.length vc) xs.length (L5.svs xs) [.string s] rfl HK1.out.2 (by omega) 1 (by omega) ⟨w.heap.size, 0, none⟩ 1 rfl rfl (fun i u hi => by
      rw [Addr.add_lit, cell_of_row _ _ _ _ _ _ (heap_alloc_new _ _)]
      simpa using hi) (fun u hu => by simp at hu; subst hu; rfl) ?_
  intro v' w5 hown hg hat
  have hno : (Value.slice va xs.length vc).ownBlock ≠ some o := row_ne HK1.out.1 HK1.out.2 (by decide)
  have b5 : w5.heap[o]? = some (.cells #[.slice va xs.length vc] 33 (0, 0)) := (hg.block o (Nat.lt_of_lt_of_le ol HB1.out.size) (fun e => hno e.symm)).trans HK1.out.1
  have c5 : w5.cell? ⟨o, 0, none⟩ = some (.slice va xs.length vc) := by rw [cell_of_row _ _ _ _ _ _ b5]; rfl
  have f5 : ∀ i, w5.frozen? ⟨o, i, none⟩ = false := fun i => frozen_of_row _ _ _ _ _ b5
  have l5 := (Array.getElem?_eq_some_iff.1 b5).1
  obtain ⟨ad, cp, rfl⟩ := L5.owns_at hown
  have HF : Hid ((lstSt o).P (.slice ad (xs.length + 1) cp, xs ++ [s]) (w5.setCell ⟨o, 0, none⟩ (.slice ad (xs.length + 1) cp)) ∧ L4.Moves (lstSt o) (.slice va xs.length vc, xs) (.slice ad (xs.length + 1) cp, xs ++ [s]) w (w5.setCell ⟨o, 0, none⟩ (.slice ad (xs.length + 1) cp))) := by
    refine ⟨⟨heap_setCell_same w5 o 0 _ _ _ b5, ?_⟩, ⟨hg.os.trans HB1.out.os, hg.tape.trans HB1.out.tape, hg.output.trans HB1.out.output, ?_, fun q hq hs => ?_⟩, fun q hq => ?_⟩
    · have h1 := ownsRow_setCell_other hown (a := ⟨o, 0, none⟩) (row_ne b5 hown (by decide)) (.slice ad (xs.length + 1) cp)
      show World.ownsRow _ 0 9 1 (.slice ad (xs.length + 1) cp) (xs ++ [s]).length (L5.svs (xs ++ [s]))
      rw [List.length_append, show L5.svs (xs ++ [s]) = L5.svs xs ++ [.string s] by simp [L5.svs]]
      exact h1
    · have z1 := HB1.out.size; have z2 := hg.size; simp [World.setCell]; omega
    · rw [heap_setCell_other _ _ _ _ (fun e => hs (Or.inl e)), hg.block q (Nat.lt_of_lt_of_le hq HB1.out.size) (fun e => hs (Or.inr e.symm)), HB1.out.block q hq]
    · rcases hq with hq | hq
      · exact Or.inl (Or.inl hq)
      · rcases hat q hq with hq | hq
        · exact Or.inl (Or.inr hq)
        · exact Or.inr (Nat.le_trans HB1.out.size hq)
  clear hown hg hat b5 HK HK1 HB1 c0 hf
  go_wp2
  go_ret
  exact ⟨rfl, _, HF.out⟩

set_option maxRecDepth 100000 in
theorem r1_fed (o : Nat) : Fed (lstSt o) (fun b => b.2) (fun (g : List ByteArray) x => (g ++ [x], true)) List.length 100000 26 #[] #[.pointer (some ⟨o, 0, none⟩)] where
  gt := fun _ _ => rfl
  call := fun c W x hP hM _ => by
    obtain ⟨v, xs⟩ := c
    refine (r1_any (s := x) hP (by have : xs.length + 1 ≤ 100000 := hM; omega)).mono ?_
    rintro e w' ⟨rfl, v', h1, h2⟩
    exact ⟨rfl, (v', xs ++ [x]), h1, rfl, h2⟩
  wgs := fun c x => by simp

/-- A number under way, in block o; the bound in block q. -/
def cntSt (o p : Nat) (st : Int) : L4.St Nat where
  own _ q := q = o ∨ q = p
  P b W := W.heap[o]? = some (.cells #[.int .i64 (b : Int)] 3 (0, 0)) ∧ W.heap[p]? = some (.cells #[.int .u8 st] 5 (0, 0))
  keep b w w' h hk _ := ⟨(hk o (Or.inl rfl)).trans h.1, (hk p (Or.inr rfl)).trans h.2⟩
  lt b w q h hq := by
    rcases hq with rfl | rfl
    · exact (Array.getElem?_eq_some_iff.1 h.1).1
    · exact (Array.getElem?_eq_some_iff.1 h.2).1
  tag b w q cs h hq := by
    intro e
    rcases hq with rfl | rfl
    · rw [h.1] at e; simp at e
    · rw [h.2] at e; simp at e

set_option maxRecDepth 100000 in
set_option maxHeartbeats 1000000 in
theorem r2_any {o p : Nat} {st : Nat} {n : Nat} {s : ByteArray} {w : World} (hst : st ≤ 255) (hn : n + 1 ≤ 100000) (k : (cntSt o p st).P n w) :
    Calls Tryz.prog 27 #[.string s, .pointer (some ⟨o, 0, none⟩), .pointer (some ⟨p, 0, none⟩)] w fun e w' => e = .returned (.bool (decide (n + 1 ≤ st))) ∧ (cntSt o p st).P (n + 1) w' ∧ L4.Moves (cntSt o p st) n (n + 1) w w' := by
  obtain ⟨k1, k2⟩ := k
  have hop : p ≠ o := tag_ne k2 k1 (by decide)
  have c0 : w.cell? ⟨o, 0, none⟩ = some (.int .i64 (n : Int)) := by rw [cell_of_row _ _ _ _ _ _ k1]; rfl
  have c1 : w.cell? ⟨p, 0, none⟩ = some (.int .u8 (st : Int)) := by rw [cell_of_row _ _ _ _ _ _ k2]; rfl
  have f0 : ∀ i, w.frozen? ⟨o, i, none⟩ = false := fun i => frozen_of_row _ _ _ _ _ k1
  have ol := (Array.getElem?_eq_some_iff.1 k1).1
  have pl := (Array.getElem?_eq_some_iff.1 k2).1
  have oth : ∀ q, q ≠ o → (w.setCell ⟨o, 0, none⟩ (.int .i64 ((n : Int) + 1))).heap[q]? = w.heap[q]? := fun q hq => heap_setCell_other _ _ _ _ hq
  have HF : Hid ((cntSt o p st).P (n + 1) (w.setCell ⟨o, 0, none⟩ (.int .i64 ((n : Int) + 1))) ∧ L4.Moves (cntSt o p st) n (n + 1) w (w.setCell ⟨o, 0, none⟩ (.int .i64 ((n : Int) + 1)))) :=
    ⟨⟨heap_setCell_same w o 0 _ _ (.int .i64 ((n : Int) + 1)) k1, (oth p hop).trans k2⟩, (Only.refl _ w).setCell (p := ⟨o, 0, none⟩) (Or.inr (Or.inl rfl)) _, fun q hq => Or.inl hq⟩
  have hle : ((n : Int) + 1 ≤ (st : Int)) ↔ n + 1 ≤ st := by omega
  go_enter Tryz.func27, Tryz.ntmps27
  by_cases h : n + 1 ≤ st
  · have h1 : (n : Int) + 1 ≤ (st : Int) := by omega
    go_wp2
    go_ret
    exact ⟨by rw [decide_eq_true h]; rfl, HF.out⟩
  · have h1 : ¬ (n : Int) + 1 ≤ (st : Int) := by omega
    go_wp2
    go_ret
    exact ⟨by first | rfl | (rw [decide_eq_false h]; rfl), HF.out⟩

set_option maxRecDepth 100000 in
theorem r2_fed (o p st : Nat) (hst : st ≤ 255) : Fed (cntSt o p st) (fun b => b) (fun (g : Nat) _ => (g + 1, decide (g + 1 ≤ st))) (fun g => g) 100000 27 #[] #[.pointer (some ⟨o, 0, none⟩), .pointer (some ⟨p, 0, none⟩)] where
  gt := fun _ _ => rfl
  call := fun c W x hP hM _ => by
    refine (r2_any (s := x) hst hM hP).mono ?_
    rintro e w' ⟨rfl, h1, h2⟩
    exact ⟨rfl, c + 1, h1, rfl, h2⟩
  wgs := fun c x => Nat.le_refl _

/-- Below a bound ("": all are). -/
def toB (tt x : ByteArray) : Bool := decide (tt.size = 0) || ltB tt x

theorem toB_no {tt x : ByteArray} : (tt.size ≠ 0 ∧ ¬ ltB tt x = true) ↔ toB tt x = false := by
  unfold toB
  simp

theorem feed_list {tt : ByteArray} (l : List ByteArray) : ∀ g : List ByteArray, (feed tt (fun (g : List ByteArray) x => (g ++ [x], true)) l g).1 = g ++ l.takeWhile (toB tt) := by
  induction l with
  | nil => intro g; simp [feed]
  | cons x l ih =>
    intro g
    rw [feed, List.takeWhile_cons]
    cases h : toB tt x
    · rw [if_pos (toB_no.2 h)]; simp
    · rw [if_neg (fun q => by have := toB_no.1 q; rw [h] at this; cases this)]
      simp only [if_true]
      rw [ih]
      simp

theorem feed_count {tt : ByteArray} {st : Nat} (l : List ByteArray) : ∀ g : Nat, g ≤ st → (feed tt (fun (g : Nat) _ => (g + 1, decide (g + 1 ≤ st))) l g).1 = min (g + (l.takeWhile (toB tt)).length) (st + 1) := by
  induction l with
  | nil => intro g hg; simp [feed]; omega
  | cons x l ih =>
    intro g hg
    rw [feed, List.takeWhile_cons]
    cases h : toB tt x
    · rw [if_pos (toB_no.2 h)]; simp; omega
    · rw [if_neg (fun q => by have := toB_no.1 q; rw [h] at this; cases this)]
      by_cases h2 : g + 1 ≤ st
      · simp only [h2, decide_true, if_true, List.length_cons]
        rw [ih _ h2]
        omega
      · simp only [h2, decide_false, Bool.false_eq_true, if_false, if_true, List.length_cons]
        omega

theorem take_filter {tt : ByteArray} {l : List ByteArray} (h : l.Pairwise ltP) : l.takeWhile (toB tt) = l.filter (toB tt) := by
  induction l with
  | nil => rfl
  | cons x l ih =>
    rw [List.takeWhile_cons, List.filter_cons]
    cases hx : toB tt x
    · simp only [Bool.false_eq_true, if_false]
      symm
      rw [List.filter_eq_nil_iff]
      intro y hy hc
      obtain ⟨h1, h2⟩ := toB_no.2 hx
      unfold toB at hc
      simp only [h1, decide_false, Bool.false_or] at hc
      exact h2 (ltB_iff.2 (lt_tr ((List.pairwise_cons.1 h).1 y hy) (ltB_iff.1 hc)))
    · simp only [if_true]
      rw [ih (List.pairwise_cons.1 h).2]

/-- The entries of a range. -/
def rangeL (fr tt : ByteArray) (es : List ByteArray) : List ByteArray := es.filter fun e => !ltB fr e && toB tt e

theorem range_take {fr tt : ByteArray} {es : List ByteArray} (h : es.Pairwise ltP) : (fromL fr es).takeWhile (toB tt) = rangeL fr tt es := by
  have hp : (fromL fr es).Pairwise ltP := h.filter _
  rw [take_filter hp]
  unfold fromL rangeL
  rw [List.filter_filter]
  congr 1
  funext e
  exact Bool.and_comm _ _
end Go.Proofs.YtfdfamjajhmihaaGreat
/-
  TreeRanges: the document's range.
-/
namespace Go.Proofs.YtfdfamjajhmihaaGreat
open Go.RowKit
open L5 (ltP ltB leB)

/-- A list of the call's own, under way. -/
structure Rg (w : World) (v : Value) (xs : List ByteArray) (W : World) : Prop where
  bel : Below w.heap.size w W
  row : W.ownsRow w.heap.size 9 1 v xs.length (L5.svs xs)

theorem Rg.on {w W W' : World} {v : Value} {xs : List ByteArray} (k : Rg w v xs W) (hb : Below W.heap.size W W') : Rg w v xs W' := ⟨tbelow_on k.bel hb, L5.owns_below k.row hb⟩

theorem Rg.grow {w W W' : World} {v v' : Value} {xs : List ByteArray} {x : ByteArray} {m : Nat} (k : Rg w v xs W) (hg : W.grownBy W' v.ownBlock) (hm : m = xs.length + 1) (ho : W'.ownsRow w.heap.size 9 1 v' m (L5.svs xs ++ L5.svs [x])) : Rg w v' (xs ++ [x]) W' := by
  subst hm
  refine ⟨⟨hg.os.trans k.bel.os, hg.tape.trans k.bel.tape, hg.output.trans k.bel.output, Nat.le_trans k.bel.size hg.size, fun q hq => ?_⟩, ?_⟩
  · refine (hg.block q (Nat.lt_of_lt_of_le hq k.bel.size) fun e => ?_).trans (k.bel.block q hq)
    have := (k.row.lt q e.symm).1
    omega
  · rw [List.length_append]
    unfold L5.svs at ho ⊢
    rw [List.map_append]
    exact ho

theorem own_newS {W : World} {base q : Nat} (hq : W.heap[q]? = some (.cells #[] 9 (0, 0))) (hw : base ≤ q) : W.ownsRow base 9 1 (.slice (some ⟨q, 0, none⟩) 0 0) 0 [] :=
  ⟨by simp, Or.inr ⟨q, 0, #[], rfl, hw, hq, Nat.le_refl _, by unfold maxLen; omega, by simp, by simp⟩⟩

theorem range_snoc {fr tt : ByteArray} {l : List ByteArray} {j : Nat} (h : j < l.length) : rangeL fr tt (l.take (j + 1)) = rangeL fr tt (l.take j) ++ if (!ltB fr l[j] && toB tt l[j]) = true then [l[j]] else [] := by
  unfold rangeL
  rw [List.take_succ_eq_append_getElem h, List.filter_append, List.filter_cons, List.filter_nil]

theorem range_len {fr tt : ByteArray} {l : List ByteArray} : (rangeL fr tt l).length ≤ l.length := List.length_filter_le ..

set_option maxRecDepth 100000 in
set_option maxHeartbeats 1000000 in
theorem srange_walk {B p : Nat} {l : List ByteArray} {fr tt : ByteArray} {w : World} (k : SetP B p l w) (hl : l.length ≤ 1000) :
    Calls Tryz.prog 24 #[.pointer (some ⟨p, 0, none⟩), .string fr, .string tt] w fun e W => ∃ a c, e = .returned (.slice a (rangeL fr tt l).length c) ∧ Rg w (.slice a (rangeL fr tt l).length c) (rangeL fr tt l) W := by
  obtain ⟨a, c, h1, h2⟩ := k.row
  have HR := thid (L5.owns_rd_slice h2)
  have c0 : w.cell? ⟨p, 0, none⟩ = some (.slice a l.length c) := by rw [cell_of_row _ _ _ _ _ _ h1]; rfl
  have pl := (Array.getElem?_eq_some_iff.1 h1).1
  clear h1 h2 k
  go_enter Tryz.func24, Tryz.ntmps24
  have OWN0 : (w.alloc (.cells #[] 9)).ownsRow w.heap.size 9 1 (.slice (some ⟨w.heap.size, 0, none⟩) 0 0) 0 (L5.svs []) := own_newS (heap_alloc_new _ _) (Nat.le_refl _)
  go_wp2_with fail
  have HS0 : Hid (Rg w (.slice (some ⟨w.heap.size, 0, none⟩) 0 0) [] (w.alloc (.cells #[] 9))) := ⟨tbelow _ _, OWN0⟩
  go_loopw [7, 8] (fun v i wr => ∃ j : Nat, j ≤ l.length ∧ i = .int .i64 (j : Int) ∧ ∃ (b : Option Addr) (d : Nat), v = .slice b (rangeL fr tt (l.take j)).length d ∧ Hid (Rg w (.slice b (rangeL fr tt (l.take j)).length d) (rangeL fr tt (l.take j)) wr)) (fun _ i _ => l.length - (intOf i).toNat)
  case atStart => exact ⟨0, Nat.zero_le _, rfl, some ⟨w.heap.size, 0, none⟩, 0, rfl, HS0.out⟩
  case round =>
    clear HS0
    obtain ⟨j, hj, rfl, b, d, rfl, HG⟩ := hrel
    have p0 : wr.cell? ⟨p, 0, none⟩ = some (.slice a l.length c) := (HG.out.bel.cell (p := ⟨p, 0, none⟩) pl).trans c0
    have ql : p < wr.heap.size := Nat.lt_of_lt_of_le pl HG.out.bel.size
    by_cases hlt : j < l.length
    · have hlt' : (j : Int) < (l.length : Int) := by omega
      obtain ⟨x1, o1, rfl, l1, c1⟩ := HR.out.str j hlt
      have e1 := (HG.out.bel.cell (p := ⟨x1, o1 + j, none⟩) l1).trans c1
      have m1 : x1 < wr.heap.size := Nat.lt_of_lt_of_le l1 HG.out.bel.size
      have HSN := thid (range_snoc (fr := fr) (tt := tt) hlt)
      have hlen : (rangeL fr tt (l.take j)).length ≤ 1000 := by
        have := range_len (fr := fr) (tt := tt) (l := l.take j)
        rw [List.length_take] at this
        omega
      generalize l[j] = y at *
      obtain ⟨R1, hR1⟩ : ∃ R1, rangeL fr tt (l.take (j + 1)) = R1 := ⟨_, rfl⟩
      obtain ⟨R, hR⟩ : ∃ R, rangeL fr tt (l.take j) = R := ⟨_, rfl⟩
      rw [hR] at HG HSN hlen ⊢
      rw [hR1] at HSN
      have HQ := thid hR1
      clear hR hR1 c1 l1
      have HNO : Hid ((!ltB fr y && toB tt y) = false → Rg w (.slice b R1.length d) R1 wr ∧ R1 = R) := fun h => by
        have : R1 = R := by rw [HSN.out, h]; simp
        subst this
        exact ⟨HG.out, rfl⟩
      have HYE : Hid ((!ltB fr y && toB tt y) = true → R1 = R ++ [y]) := fun h => by rw [HSN.out, if_pos h]
      have HS1 := thid (HG.out.on (tbelow wr (.cells #[.string y] 9)))
      cases hf : Op.bytesLess y.toList fr.toList
      · have hf' : ltB fr y = false := hf
        cases ht : tt.toList.isEmpty
        · have ht' := ht
          rw [L5.isEmpty_size] at ht'
          cases hz : Op.bytesLess y.toList tt.toList
          · have HN := thid (HNO.out (by unfold toB; rw [hf', ht', show ltB tt y = false from hz]; rfl))
            have hRR := HN.out.2
            subst hRR
            clear HG HSN hf' ht' HNO HYE HS1
            go_wp2
            go_roundw
            case rel => exact ⟨j + 1, hlt, by go_num, b, d, by rw [HQ.out], by rw [HQ.out]; exact HN.out.1⟩
            case measure => simp [intOf]; omega
          · have hRR := thid (HYE.out (by unfold toB; rw [hf', show ltB tt y = true from hz, Bool.or_true]; rfl))
            clear HG HSN hf' ht' HNO HYE
            go_wp2_with (first
              | (at_builtin
                 revert HS1)
              | fail)
            intro HS1
            refine L5.append_row (z := .string ⟨#[]⟩) (by_ := 16) Tryz.underlying33 (by kernel_rfl) (by decide) rfl w.heap.size HS1.out.bel.size rfl _ _ rfl (.slice b R.length d) R.length (L5.svs R) (L5.svs [y]) rfl HS1.out.row (by omega) 1 (by omega) ⟨wr.heap.size, 0, none⟩ 1 rfl rfl (L5.one_str wr _ _) (L5.one_svs _) ?_
            intro v' W' hown hg _
            have HN := thid (HS1.out.grow hg rfl hown)
            rw [← hRR.out] at HN
            have hn1 : R1.length = R.length + 1 := by rw [hRR.out]; simp
            obtain ⟨b', d', rfl⟩ := L5.owns_at hown
            rw [← hn1] at HN ⊢
            clear hown hg HS1
            go_wp2
            go_roundw
            case rel => exact ⟨j + 1, hlt, by go_num, b', d', by rw [HQ.out, hn1], by rw [HQ.out]; exact HN.out⟩
            case measure => simp [intOf]; omega
        · have ht' := ht
          rw [L5.isEmpty_size] at ht'
          have hRR := thid (HYE.out (by unfold toB; rw [hf', ht', Bool.true_or]; rfl))
          clear HG HSN hf' ht' HNO HYE
          go_wp2_with (first
            | (at_builtin
               revert HS1)
            | fail)
          intro HS1
          refine L5.append_row (z := .string ⟨#[]⟩) (by_ := 16) Tryz.underlying33 (by kernel_rfl) (by decide) rfl w.heap.size HS1.out.bel.size rfl _ _ rfl (.slice b R.length d) R.length (L5.svs R) (L5.svs [y]) rfl HS1.out.row (by omega) 1 (by omega) ⟨wr.heap.size, 0, none⟩ 1 rfl rfl (L5.one_str wr _ _) (L5.one_svs _) ?_
          intro v' W' hown hg _
          have HN := thid (HS1.out.grow hg rfl hown)
          rw [← hRR.out] at HN
          have hn1 : R1.length = R.length + 1 := by rw [hRR.out]; simp
          obtain ⟨b', d', rfl⟩ := L5.owns_at hown
          rw [← hn1] at HN ⊢
          clear hown hg HS1
          go_wp2
          go_roundw
          case rel => exact ⟨j + 1, hlt, by go_num, b', d', by rw [HQ.out, hn1], by rw [HQ.out]; exact HN.out⟩
          case measure => simp [intOf]; omega
      · have HN := thid (HNO.out (by rw [show ltB fr y = true from hf]; rfl))
        have hRR := HN.out.2
        subst hRR
        clear HG HSN HNO HYE HS1
        go_wp2
        go_roundw
        case rel => exact ⟨j + 1, hlt, by go_num, b, d, by rw [HQ.out], by rw [HQ.out]; exact HN.out.1⟩
        case measure => simp [intOf]; omega
    · have hlt' : ¬ (j : Int) < (l.length : Int) := by omega
      have hjl : l.take j = l := List.take_of_length_le (by omega)
      rw [hjl] at HG ⊢
      go_wp2
      go_ret
      exact ⟨b, d, rfl, HG.out⟩
end Go.Proofs.YtfdfamjajhmihaaGreat
/-
  TreeRanges: Each with its two functions, at any tree.
-/
namespace Go.Proofs.YtfdfamjajhmihaaGreat
open Go.RowKit
open L4 (Ar ArP Abs arV nv)
open L5 (ltP ltB leB)

theorem each_list {s : Ar} {t r h : Nat} {es : List ByteArray} {ps : List Nat} {fr tt : ByteArray} {w : World} (hT : TW s t r h es ps w) (hrise : es.Pairwise ltP) (hM : es.length ≤ 90000) :
    Calls Tryz.prog 25 #[.pointer (some ⟨t, 0, none⟩), .string fr, .string tt, .func (.func 26) #[] #[.pointer (some ⟨w.heap.size, 0, none⟩)]] (w.alloc (.cells #[.slice none 0 0] 33)) fun e W => e = .returned (.tuple #[]) ∧ ∃ a c, W.heap[w.heap.size]? = some (.cells #[.slice a (rangeL fr tt es).length c] 33 (0, 0)) ∧ W.ownsRow w.heap.size 9 1 (.slice a (rangeL fr tt es).length c) (rangeL fr tt es).length (L5.svs (rangeL fr tt es)) ∧ Below w.heap.size w W := by
  have hb := tbelow w (.cells #[.slice none 0 0] 33)
  have hps := pages_le hT.ok hT.tp.nodup hT.tp.sub.pages
  have hnew : (lstSt w.heap.size).P (.slice none 0 0, []) (w.alloc (.cells #[.slice none 0 0] 33)) := ⟨heap_alloc_new _ _, ⟨rfl, Or.inl ⟨rfl, rfl⟩⟩⟩
  have own0 : ∀ q, (lstSt w.heap.size).own (.slice none 0 0, []) q → q = w.heap.size := fun q hq => by
    rcases hq with hq | hq
    · exact hq
    · simp [Value.ownBlock] at hq
  refine (each_any (fr := fr) (tt := tt) (r1_fed w.heap.size) (hT.on hb) hnew (fun q hq ho => by
      have := own0 q hq
      have := L4.arSt.lt s w q hT.ar ho
      omega) (fun q hq => by
      have := own0 q hq
      have := (Array.getElem?_eq_some_iff.1 hT.tr.blk).1
      omega) (by show ([] : List ByteArray).length + es.length + ps.length ≤ 100000; simp; omega)).mono ?_
  rintro e w4 ⟨rfl, ⟨v', xs⟩, hp, hct, hm⟩
  have hxs : xs = rangeL fr tt es := by
    have : xs = (feed tt (fun (g : List ByteArray) x => (g ++ [x], true)) (fromL fr es) []).1 := hct
    rw [this, feed_list, range_take hrise]
    rfl
  subst hxs
  have hp2 : w4.ownsRow 0 9 1 v' (rangeL fr tt es).length (L5.svs (rangeL fr tt es)) := hp.2
  obtain ⟨a, c, rfl⟩ := own_slice hp2
  have hz := hb.size
  refine ⟨rfl, a, c, hp.1, owns_raise hp.2 fun q hq => ?_, hb.trans (hm.only.below hb.size fun q hq x => ?_)⟩
  · rcases hm.own q (Or.inr hq) with hq | hq
    · have := own0 q hq; omega
    · omega
  · have := own0 q x; omega

theorem each_count {s : Ar} {t r h u st : Nat} {es : List ByteArray} {ps : List Nat} {fr tt : ByteArray} {w : World} (hT : TW s t r h es ps w) (hrise : es.Pairwise ltP) (hM : es.length ≤ 90000) (hst : st ≤ 255) (hu : w.heap[u]? = some (.cells #[.int .u8 (st : Int)] 5 (0, 0))) :
    Calls Tryz.prog 25 #[.pointer (some ⟨t, 0, none⟩), .string fr, .string tt, .func (.func 27) #[] #[.pointer (some ⟨w.heap.size, 0, none⟩), .pointer (some ⟨u, 0, none⟩)]] (w.alloc (.cells #[.int .i64 0] 3)) fun e W => e = .returned (.tuple #[]) ∧ W.heap[w.heap.size]? = some (.cells #[.int .i64 ((min (rangeL fr tt es).length (st + 1) : Nat) : Int)] 3 (0, 0)) ∧ Below w.heap.size w W := by
  have hb := tbelow w (.cells #[.int .i64 0] 3)
  have hps := pages_le hT.ok hT.tp.nodup hT.tp.sub.pages
  have ul := (Array.getElem?_eq_some_iff.1 hu).1
  have hu1 := (hb.block _ ul).trans hu
  have hnew : (cntSt w.heap.size u st).P 0 (w.alloc (.cells #[.int .i64 0] 3)) := ⟨heap_alloc_new _ _, hu1⟩
  refine (each_any (fr := fr) (tt := tt) (r2_fed w.heap.size u st hst) (hT.on hb) hnew (fun q hq ho => by
      rcases hq with rfl | rfl
      · have := L4.arSt.lt s w _ hT.ar ho
        omega
      · exact not_own hT.ar hu (by decide) (by decide) (by decide) ho) (fun q hq => by
      rcases hq with rfl | rfl
      · have := (Array.getElem?_eq_some_iff.1 hT.tr.blk).1
        omega
      · exact tag_ne hu hT.tr.blk (by decide)) (by show 0 + es.length + ps.length ≤ 100000; omega)).mono ?_
  rintro e w4 ⟨rfl, n, hp, hct, hm⟩
  have hn : n = min (rangeL fr tt es).length (st + 1) := by
    have h1 : n = (feed tt (fun (g : Nat) _ => (g + 1, decide (g + 1 ≤ st))) (fromL fr es) 0).1 := hct
    rw [h1, feed_count _ _ (Nat.zero_le _), range_take hrise, Nat.zero_add]
  subst hn
  have hz := hb.size
  refine ⟨rfl, hp.1, hm.only.os.trans hb.os, hm.only.tape.trans hb.tape, hm.only.output.trans hb.output, Nat.le_trans hz hm.only.size, fun q hq => ?_⟩
  by_cases e : q = u
  · subst e
    exact hp.2.trans hu.symm
  · refine (hm.only.block q (Nat.lt_of_lt_of_le hq hz) fun x => ?_).trans (hb.block q hq)
    rcases x with x | x
    · omega
    · exact e x
end Go.Proofs.YtfdfamjajhmihaaGreat
/-
  TreeRanges: the walk.
-/
namespace Go.Proofs.YtfdfamjajhmihaaGreat
open Go.RowKit
open L4 (Ar ArP Abs arV nv)
open L5 (ltP ltB leB)

theorem min_cast (a b : Nat) : (((min a (b + 1) : Nat) : Int) == min (a : Int) ((b : Int) + 1)) = true := by
  rw [beq_iff_eq]
  omega

set_option maxRecDepth 100000 in
set_option maxHeartbeats 2000000 in
theorem ranges_walk {l : List TOp} {a : Option Addr} {c : Nat} {fr tt : ByteArray} {st : Nat} {w : World} (hst : st ≤ 255) (hS : Rw.SlG oC 3 w a l) :
    Calls Tryz.prog 5 #[.slice a l.length c, .agg #[.string fr, .string tt, .int .u8 (st : Int)]] w fun e w' => e = .returned (.bool true) ∧ Below w.heap.size w w' := by
  have HS := thid hS
  clear hS
  go_enter Tryz.func5, Tryz.ntmps5
  go_wp2_with fail
  refine (awake_walk _).mono ?_
  rintro e w1 ⟨rfl, b1⟩
  have HB1 := thid b1
  clear b1
  go_wp2_with fail
  have g1 : w1.heap[w.heap.size]? = some (.cells #[.string fr, .string tt, .int .u8 (st : Int)] 53 (0, 0)) := (HB1.out.block _ (by simp)).trans (heap_alloc_new w (.cells #[.string fr, .string tt, .int .u8 (st : Int)] 53))
  have f0 : w1.cell? ⟨w.heap.size, 0, none⟩ = some (.string fr) := by rw [cell_of_row _ _ _ _ _ _ g1]; rfl
  have f1 : w1.cell? ⟨w.heap.size, 1, none⟩ = some (.string tt) := by rw [cell_of_row _ _ _ _ _ _ g1]; rfl
  have f2 : w1.cell? ⟨w.heap.size, 2, none⟩ = some (.int .u8 (st : Int)) := by rw [cell_of_row _ _ _ _ _ _ g1]; rfl
  have fl := (Array.getElem?_eq_some_iff.1 g1).1
  have HBW := thid (tbelow_on (tbelow w (.cells #[.string fr, .string tt, .int .u8 (st : Int)] 53)) HB1.out)
  have KS := thid (fun (W : World) (hb : Below w1.heap.size w1 W) => (⟨(hb.cell (p := ⟨w.heap.size, 0, none⟩) fl).trans f0, (hb.cell (p := ⟨w.heap.size, 1, none⟩) fl).trans f1, (hb.cell (p := ⟨w.heap.size, 2, none⟩) fl).trans f2⟩ : W.cell? ⟨w.heap.size, 0, none⟩ = some (.string fr) ∧ W.cell? ⟨w.heap.size, 1, none⟩ = some (.string tt) ∧ W.cell? ⟨w.heap.size, 2, none⟩ = some (.int .u8 (st : Int))))
  clear g1 HB1
  go_region_held (fun w' => w'.cell? ⟨w.heap.size, 0, none⟩ = some (.string fr) ∧ w'.cell? ⟨w.heap.size, 1, none⟩ = some (.string tt) ∧ w'.cell? ⟨w.heap.size, 2, none⟩ = some (.int .u8 (st : Int))) (exact KS.out _ (by repeat (first | exact Below.refl _ _ | exact (Below.refl _ _).drew | refine Below.drew ?_ | refine Below.alloc ?_ (by simp; try omega) _ | refine Below.setCell ?_ (by simp; try omega) _))) (fail)
  have HB2 := thid (tbelow_on HBW.out ((tbelow w1 (.cells #[.int .u8 (st : Int)] 5)).drew))
  have HU2 : Hid ((w1.alloc (.cells #[.int .u8 (st : Int)] 5)).drew.heap[w1.heap.size]? = some (.cells #[.int .u8 (st : Int)] 5 (0, 0))) := heap_alloc_new w1 _
  have ub : w.heap.size < w1.heap.size := fl
  clear KS HBW f0 f1 f2 fl
  generalize (w1.alloc (.cells #[.int .u8 (st : Int)] 5)).drew = W2 at *
  generalize w1.heap.size = u at *
  clear w1
  have HGR := thid (great_walk (c := c) (m := 200) (HS.out.below HB2.out) (by omega))
  cases hg : greatB l 200
  · rw [hg] at HGR
    by_cases hf : fr.size ≤ 420
    · by_cases ht : tt.size ≤ 420
      · have hf' : (fr.size : Int) ≤ 420 := by omega
        have ht' : (tt.size : Int) ≤ 420 := by omega
        go_wp2_with fail
        refine HGR.out.mono ?_
        rintro e w3 ⟨rfl, b3⟩
        have HB3 := thid (tbelow_on HB2.out b3)
        have HU3 := thid ((b3.block _ (Array.getElem?_eq_some_iff.1 HU2.out).1).trans HU2.out)
        clear b3 HGR HB2 HU2
        have hf2 : ¬ (420 : Int) < (fr.size : Int) := by omega
        have ht2 : ¬ (420 : Int) < (tt.size : Int) := by omega
        obtain ⟨hn1, hn2⟩ := great_not hg
        go_wp2_with fail
        refine (L4.new_ok 4000 (by omega) _).mono ?_
        rintro e w4 ⟨s, rfl, hF⟩
        have HF := thid hF
        have hok0 : s.abs.Ok := by
          rw [hF.2.1]
          exact ⟨by simp, by simp, by simp, by simp, by simp, by simp⟩
        have hl0 : 0 < s.abs.left := by
          rw [hF.2.1]
          simp [L4.Abs.left, L4.Abs.used]
        have hu3 := (Array.getElem?_eq_some_iff.1 HU3.out).1
        have HU4 := thid ((hF.2.2.1.block _ hu3).trans HU3.out)
        have hu4 := (Array.getElem?_eq_some_iff.1 HU4.out).1
        have hnu : ¬ s.own u := fun h => by have := hF.2.2.2 _ h; omega
        have HN := thid (tnew hF.1 hok0 hl0)
        unfold arV at HN ⊢
        clear hF hok0 hl0 HU3 hf ht hf' ht' hg
        go_wp2_with fail
        refine HN.out.mono ?_
        rintro e w5 ⟨rfl, s5, r5, t1, p1, g1, o1, n1⟩
        have HU5 := thid (((tbelow w5 (.cells #[.slice none 0 0] 35)).block _ (Nat.lt_of_lt_of_le hu4 o1.size)).trans ((o1.block _ hu4 (fun h => by
          rcases h with h | h
          · exact hnu h
          · omega)).trans HU4.out))
        have HBO := thid (Both.new HB3.out HF.out t1 o1 n1)
        have HPP := thid p1
        clear HN HF HB3 HU4 t1 g1 o1 n1 p1 hnu hu3 hu4
        generalize w4.heap.size = t at *
        go_wp2_with fail
        generalize w5.heap.size = p at *
        generalize w5.alloc (.cells #[.slice none 0 0] 35) = W5 at *
        go_loopw [53] (fun i wr => ∃ j : Nat, j ≤ l.length ∧ i = .int .i64 (j : Int) ∧ ∃ (s5 : Ar) (r5 h5 : Nat) (es : List ByteArray) (ps : List Nat), Hid (Both w s5 t p r5 h5 es ps es wr ∧ es.length ≤ j ∧ s5.p = s.p ∧ wr.heap[u]? = some (.cells #[.int .u8 (st : Int)] 5 (0, 0)))) (fun i _ => l.length - (intOf i).toNat)
        case atStart => exact ⟨0, Nat.zero_le _, rfl, s5, r5, 1, [], [r5], HBO.out, by simp, HPP.out, HU5.out⟩
        case round =>
          clear HBO HPP HU5
          obtain ⟨j, hj, rfl, s6, r6, h6, es, ps, HI⟩ := hrel
          obtain ⟨hT, hle, hsp, hu6⟩ := HI.out
          by_cases hlt : j < l.length
          · have hlt' : (j : Int) < (l.length : Int) := by omega
            obtain ⟨b, o, k, rfl, hbl, hx, hc⟩ := (HS.out.below hT.bel).at hlt
            have hks := hn2 k (List.mem_of_getElem? hx)
            have c0 : wr.cell? ⟨b, o + j * 3, none⟩ = some (.int .i64 k.k) := hc 0 _ rfl
            have c1 : wr.cell? ⟨b, o + j * 3 + 1, none⟩ = some (.int .i64 k.n) := hc 1 _ rfl
            have c2 : wr.cell? ⟨b, o + j * 3 + 2, none⟩ = some (.string k.s) := hc 2 _ rfl
            have HAL := thid (tbelow wr (.cells #[.int .i64 k.k, .int .i64 k.n, .string k.s] 37))
            have HT1 := thid (hT.on HAL.out)
            have HU1 := thid ((HAL.out.block _ (Array.getElem?_eq_some_iff.1 hu6).1).trans hu6)
            clear hc hx hT HI HAL hu6
            by_cases hk3 : k.k = 3
            · have hk : (k.k != 3) = false := by rw [hk3]; rfl
              have HD : Hid (Both w s6 t p r6 h6 es ps es (wr.alloc (.cells #[.int .i64 k.k, .int .i64 k.n, .string k.s] 37)) ∧ es.length ≤ j + 1 ∧ s6.p = s.p ∧ (wr.alloc (.cells #[.int .i64 k.k, .int .i64 k.n, .string k.s] 37)).heap[u]? = some (.cells #[.int .u8 (st : Int)] 5 (0, 0))) := ⟨HT1.out, by omega, hsp, HU1.out⟩
              clear hk3 HT1 HU1
              go_wp2
              go_roundw
              case rel => exact ⟨j + 1, hlt, by go_num, s6, r6, h6, es, ps, HD⟩
              case measure => simp [intOf]; omega
            · have hk : (k.k != 3) = true := by simpa using hk3
              have HSTP := thid (step_any (o := k) HT1.out (by omega) hks)
              rw [hsp] at HSTP
              unfold arV oV at HSTP
              clear hk3
              go_wp2_with fail
              refine HSTP.out.mono ?_
              rintro e w6 ⟨rfl, s7, r7, h7, es7, ps7, hB7, hl7, hp7, hon⟩
              have HU7 := thid ((hon.block _ (Array.getElem?_eq_some_iff.1 HU1.out).1 (fun z => by
                rcases z with z | z | z
                · exact not_own HT1.out.tw.ar HU1.out (by decide) (by decide) (by decide) z
                · exact tag_ne HU1.out HT1.out.tw.tr.blk (by decide) z
                · obtain ⟨_, _, q1, _⟩ := HT1.out.st.row
                  exact tag_ne HU1.out q1 (by decide) z)).trans HU1.out)
              have HD : Hid (Both w s7 t p r7 h7 es7 ps7 es7 w6 ∧ es7.length ≤ j + 1 ∧ s7.p = s.p ∧ w6.heap[u]? = some (.cells #[.int .u8 (st : Int)] 5 (0, 0))) := ⟨hB7, by omega, hp7.trans hsp, HU7.out⟩
              clear HSTP hB7 hl7 hp7 hon HT1 HU1 HU7
              go_wp2
              go_roundw
              case rel => exact ⟨j + 1, hlt, by go_num, s7, r7, h7, es7, ps7, HD⟩
              case measure => simp [intOf]; omega
          · have hlt' : ¬ (j : Int) < (l.length : Int) := by omega
            have hes : es.length ≤ 1000 := by omega
            have HT := thid hT
            have HU := thid hu6
            have HSR := thid (srange_walk (fr := fr) (tt := tt) hT.st hes)
            clear hT hu6 HI hle hsp
            go_wp2_with fail
            refine HSR.out.mono ?_
            rintro e w6 ⟨a6, c6, rfl, hR⟩
            have HT6 := thid (HT.out.on (hR.bel))
            have HU6 := thid ((hR.bel.block _ (Array.getElem?_eq_some_iff.1 HU.out).1).trans HU.out)
            have HR6 := thid hR
            clear hR HSR HT HU
            have HEL := thid (each_list (fr := fr) (tt := tt) HT6.out.tw HT6.out.rise (by omega))
            have hmf : ∀ (fn : Fn) (first cap : Array Value) (w : World), (Instr.makeFunc fn first cap).run Tryz.prog w = .ok (.func fn first cap) w := fun _ _ _ _ => rfl
            obtain ⟨R, hRe⟩ : ∃ R, rangeL fr tt es = R := ⟨_, rfl⟩
            rw [hRe] at HR6 HEL ⊢
            go_wp2_with fail
            refine HEL.out.mono ?_
            rintro e w7 ⟨rfl, a7, c7, q7, o7, b7⟩
            have HT7 := thid (HT6.out.on b7)
            have HU7 := thid ((b7.block _ (Array.getElem?_eq_some_iff.1 HU6.out).1).trans HU6.out)
            have g0 : w7.cell? ⟨w6.heap.size, 0, none⟩ = some (.slice a7 R.length c7) := by rw [cell_of_row _ _ _ _ _ _ q7]; rfl
            have gl := (Array.getElem?_eq_some_iff.1 q7).1
            have HRD : Hid (L5.Rd w7 a7 c7 (L5.svs R) ∧ L5.Rd w7 a6 c6 (L5.svs R)) := ⟨L5.owns_rd_slice o7, L5.owns_rd_slice (HR6.out.on b7).row⟩
            have hRl : R.length ≤ 1000 := by rw [← hRe]; exact Nat.le_trans range_len hes
            clear HEL HR6 HT6 HU6 q7 o7 b7
            go_wp2_with fail
            refine (same_strs HRD.out.1 HRD.out.2 (by omega)).mono ?_
            rintro e w8 ⟨rfl, b8⟩
            have HT8 := thid (HT7.out.on b8)
            have HU8 := thid ((b8.block _ (Array.getElem?_eq_some_iff.1 HU7.out).1).trans HU7.out)
            clear HRD HT7 HU7 g0 gl b8
            have HEC := thid (each_count (fr := fr) (tt := tt) HT8.out.tw HT8.out.rise (by omega) hst HU8.out)
            rw [hRe] at HEC
            go_wp2_with fail
            refine HEC.out.mono ?_
            rintro e w9 ⟨rfl, q9, b9⟩
            have HE := thid (tbelow_on HT8.out.bel b9)
            have u9 := (b9.block _ (Array.getElem?_eq_some_iff.1 HU8.out).1).trans HU8.out
            have n0 : w9.cell? ⟨w8.heap.size, 0, none⟩ = some (.int .i64 ((min R.length (st + 1) : Nat) : Int)) := by rw [cell_of_row _ _ _ _ _ _ q9]; rfl
            have u0 : w9.cell? ⟨u, 0, none⟩ = some (.int .u8 (st : Int)) := by rw [cell_of_row _ _ _ _ _ _ u9]; rfl
            have nl := (Array.getElem?_eq_some_iff.1 q9).1
            have ul := (Array.getElem?_eq_some_iff.1 u9).1
            clear HEC HT8 HU8 q9 b9 u9 hRe
            go_wp2
            go_ret
            exact ⟨congrArg (fun b => Ending.returned (Value.bool b)) (min_cast R.length st), HE.out⟩
      · have hf' : (fr.size : Int) ≤ 420 := by omega
        have ht' : (420 : Int) < (tt.size : Int) := by omega
        go_wp2_with fail
        refine HGR.out.mono ?_
        rintro e w3 ⟨rfl, b3⟩
        have HE := thid (tbelow_on HB2.out b3)
        clear b3 HGR HB2 HU2
        go_wp2
        go_ret
        exact ⟨rfl, HE.out⟩
    · have hf' : (420 : Int) < (fr.size : Int) := by omega
      go_wp2_with fail
      refine HGR.out.mono ?_
      rintro e w3 ⟨rfl, b3⟩
      have HE := thid (tbelow_on HB2.out b3)
      clear b3 HGR HB2 HU2
      go_wp2
      go_ret
      exact ⟨rfl, HE.out⟩
  · rw [hg] at HGR
    go_wp2_with fail
    refine HGR.out.mono ?_
    rintro e w3 ⟨rfl, b3⟩
    have HE := thid (tbelow_on HB2.out b3)
    clear b3 HGR HB2 HU2
    go_wp2
    go_ret
    exact ⟨rfl, HE.out⟩
end Go.Proofs.YtfdfamjajhmihaaGreat
