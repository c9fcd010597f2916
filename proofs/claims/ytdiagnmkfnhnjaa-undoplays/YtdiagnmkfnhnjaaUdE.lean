/-
  Undo: To and Back of package undo.
-/
import Derived.Test.YtdiagnmkfnhnjaaUdD
namespace Go.Proofs.Ytdiagnmkfnhnjaa
open Go.RowKit Rw

/-- The first t and the last t have changed places. -/
def RevT (R : List PE) (t : Nat) (M : List PE) : Prop := M.length = R.length ∧ ∀ p, p < R.length → M[p]? = if p < t ∨ R.length - 1 - p < t then R[R.length - 1 - p]? else R[p]?

theorem revT_start (R : List PE) : RevT R 0 R := ⟨rfl, fun p _ => by rw [if_neg (by omega)]⟩

theorem RevT.end {R M : List PE} {t : Nat} (h : RevT R t M) (ht : R.length ≤ 2 * t + 1) : M = R.reverse := by
  refine List.ext_getElem? fun p => ?_
  by_cases hp : p < R.length
  · rw [h.2 p hp, List.getElem?_reverse hp]
    by_cases hc : p < t ∨ R.length - 1 - p < t
    · rw [if_pos hc]
    · rw [if_neg hc, show R.length - 1 - p = p by omega]
  · rw [List.getElem?_eq_none (by rw [h.1]; omega), List.getElem?_eq_none (by simp; omega)]

theorem RevT.step {R M : List PE} {t : Nat} {x y : PE} (h : RevT R t M) (hj : t < R.length - 1 - t) (hx : M[t]? = some x) (hy : M[R.length - 1 - t]? = some y) : RevT R (t + 1) ((M.set t y).set (R.length - 1 - t) x) := by
  have hl := h.1
  rw [h.2 t (by omega), if_neg (by omega)] at hx
  rw [h.2 _ (by omega), if_neg (by omega)] at hy
  refine ⟨by simpa using hl, fun p hp => ?_⟩
  rw [List.getElem?_set, List.getElem?_set]
  by_cases e1 : R.length - 1 - t = p
  · rw [if_pos e1, if_pos (by simp; omega), if_pos (by omega), show R.length - 1 - p = t by omega, hx]
  · rw [if_neg e1]
    by_cases e2 : t = p
    · rw [if_pos e2, if_pos (by omega), if_pos (by omega), ← e2, hy]
    · rw [if_neg e2, h.2 p hp]
      by_cases hc : p < t ∨ R.length - 1 - p < t
      · rw [if_pos hc, if_pos (by omega)]
      · rw [if_neg hc, if_neg (by omega)]

/-- What reversing leaves. -/
structure RevO (B : Nat) (v : Value) (n : Nat) (M : List PE) (w w' : World) : Prop where
  own : w'.ownsRow B 35 5 v n (flat peC M)
  keep : ∀ q, v.ownBlock ≠ some q → w'.heap[q]? = w.heap[q]?
  below : Below B w w'

theorem RevO.drew {B n : Nat} {v : Value} {M : List PE} {w W : World} (h : RevO B v n M w W) : RevO B v n M w W.drew := ⟨h.own, h.keep, h.below.drew⟩

theorem RevO.swap {B g n c : Nat} {M : List PE} {w W : World} (h : RevO B (.slice (some ⟨g, 0, none⟩) n c) n M w W) {i j : Nat} (hi : i < M.length) (hj : j < M.length) (x y : PE) :
    RevO B (.slice (some ⟨g, 0, none⟩) n c) n ((M.set i y).set j x) w ((W.setCells g (i * 5) (reC y.1)).setCells g (j * 5) (reC x.1)) := by
  refine ⟨own_put peC_len (own_put peC_len h.own hi y) (by simpa using hj) x, fun q hq => ?_, below_sets (h.own.lt g rfl).1 _ _ _ (below_sets (h.own.lt g rfl).1 _ _ _ h.below)⟩
  have hne : q ≠ g := fun e => hq (by rw [e]; rfl)
  rw [heap_sets_ne hne, heap_sets_ne hne, h.keep q hq]

set_option maxRecDepth 100000 in
set_option maxHeartbeats 2000000 in
theorem reverse_walk {B : Nat} {v : Value} {n : Nat} {R : List PE} {w : World} (own : w.ownsRow B 35 5 v n (flat peC R)) (hn : n ≤ 1000000) :
    Calls Try.prog 29 #[v] w fun e w' => e = .returned (.tuple #[]) ∧ RevO B v n R.reverse w w' := by
  obtain ⟨a, c, rfl⟩ := owns_slice own
  have hl : R.length = n := (owns_slg peC_len (by decide) own).1
  have H0 := dhid (RevO.mk (B := B) (v := .slice a n c) (n := n) (M := R) (w := w) (w' := w) own (fun _ _ => rfl) (Below.refl _ _))
  have HR0 := dhid (revT_start R)
  have HEnd : Hid (∀ t M, RevT R t M → n ≤ 2 * t + 1 → M = R.reverse) := fun t M h ht => h.end (by omega)
  have HStep : Hid (∀ t M x y, RevT R t M → t < n - 1 - t → M[t]? = some x → M[n - 1 - t]? = some y → RevT R (t + 1) ((M.set t y).set (n - 1 - t) x)) := fun t M x y h h1 h2 h3 => by
    rw [← hl] at h1 h3 ⊢; exact h.step h1 h2 h3
  have HA : Hid (0 < n → ∃ g, a = some ⟨g, 0, none⟩) := fun h0 => by
    rcases owns_addr own with ⟨-, h1, -⟩ | h
    · omega
    · exact h
  have HL : Hid (∀ t M, RevT R t M → M.length = n) := fun t M h => by rw [h.1, hl]
  clear own hl
  go_enter Try.func29, Try.ntmps29
  go_wp2
  go_loopw [2, 3] (fun i j wr => ∃ (t : Nat) (M : List PE), 2 * t ≤ n ∧ i = .int .i64 (t : Int) ∧ j = .int .i64 ((n : Int) - 1 - (t : Int)) ∧ Hid (RevO B (.slice a n c) n M w wr ∧ RevT R t M)) (fun i _ _ => n - (intOf i).toNat)
  case atStart => exact ⟨0, R, by omega, rfl, by go_num, H0.out, HR0.out⟩
  case round =>
    obtain ⟨t, M, ht, rfl, rfl, HI⟩ := hrel
    by_cases hlt : t < n - 1 - t
    · obtain ⟨g, rfl⟩ := HA.out (by omega)
      have hML := HL.out t M HI.out.2
      obtain ⟨x, hx⟩ : ∃ x, M[t]? = some x := ⟨M[t]'(by omega), List.getElem?_eq_getElem (by omega)⟩
      obtain ⟨y, hy⟩ : ∃ y, M[n - 1 - t]? = some y := ⟨M[n - 1 - t]'(by omega), List.getElem?_eq_getElem (by omega)⟩
      obtain ⟨j, hj⟩ : ∃ j : Nat, j = n - 1 - t := ⟨_, rfl⟩
      have ej : (n : Int) - 1 - (t : Int) = (j : Int) := by omega
      rw [← hj] at hy hlt
      have cx := fun i u (hu : (peC x)[i]? = some u) => own_at peC_len HI.out.1.own hx hu
      have cy := fun i u (hu : (peC y)[i]? = some u) => own_at peC_len HI.out.1.own hy hu
      have x0 : wr.cell? ⟨g, t * 5, none⟩ = some (.int .i64 x.1.k) := cx 0 _ rfl
      have x1 := cx 1 _ rfl
      have x2 := cx 2 _ rfl
      have x3 := cx 3 _ rfl
      have x4 := cx 4 _ rfl
      have y0 : wr.cell? ⟨g, j * 5, none⟩ = some (.int .i64 y.1.k) := cy 0 _ rfl
      have y1 := cy 1 _ rfl
      have y2 := cy 2 _ rfl
      have y3 := cy 3 _ rfl
      have y4 := cy 4 _ rfl
      have fr := fun o => (own_fro HI.out.1.own o).1
      have gl := (own_fro HI.out.1.own 0).2
      have HN : Hid (RevO B (.slice (some ⟨g, 0, none⟩) n c) n ((M.set t y).set j x) w ((((((((((wr.setCell ⟨g, t * 5, none⟩ (.int .i64 y.1.k)).setCell ⟨g, t * 5 + 1, none⟩ (.int .i64 y.1.id)).setCell ⟨g, t * 5 + 2, none⟩ (.string y.1.t)).setCell ⟨g, t * 5 + 3, none⟩ (.slice y.1.oa y.1.ol y.1.oc)).setCell ⟨g, t * 5 + 4, none⟩ (.slice y.1.na y.1.nl y.1.nc)).setCell ⟨g, j * 5, none⟩ (.int .i64 x.1.k)).setCell ⟨g, j * 5 + 1, none⟩ (.int .i64 x.1.id)).setCell ⟨g, j * 5 + 2, none⟩ (.string x.1.t)).setCell ⟨g, j * 5 + 3, none⟩ (.slice x.1.oa x.1.ol x.1.oc)).setCell ⟨g, j * 5 + 4, none⟩ (.slice x.1.na x.1.nl x.1.nc))) :=
        RevO.swap HI.out.1 (by omega) (by omega) x y
      have HT : Hid (RevT R (t + 1) ((M.set t y).set j x)) := by
        have := HStep.out t M x y HI.out.2 (by omega) hx (by rw [← hj]; exact hy)
        rw [← hj] at this; exact this
      have hjn : j < n := by omega
      have htj : t < j := hlt
      have HJ := dhid hj
      clear cx cy hx hy hML HI hj HL HStep HEnd HA H0 HR0
      rw [ej]
      go_wp2_with fail
      go_region
      go_wp2_with fail
      exact ⟨⟨t + 1, (M.set t y).set j x, by omega, by go_num, by rw [show (j : Int) - 1 = (n : Int) - 1 - ((t + 1 : Nat) : Int) by omega], HN.out.drew, HT.out⟩, by simp [intOf]; omega⟩
    · have hRev := HEnd.out t M HI.out.2 (by omega)
      have hlt' : ¬ (t : Int) < (n : Int) - 1 - (t : Int) := by omega
      subst hRev
      go_wp2
      go_end0
      exact ⟨rfl, HI.out.1⟩

/-- In the midst of To: the log's cells, and what was taken. -/
structure ToM (B l q tb : Nat) (v s v' s' : Value) (L' : List PE) (S' : List Sv) (vt : Value) (T L : List PE) (w W : World) : Prop where
  box : W.heap[l]? = some (.cells #[.int .i64 (q : Int), v', s'] 64 (0, 0))
  own : W.ownsRow B 35 5 v' L'.length (flat peC L')
  sav : W.ownsRow B 69 2 s' S'.length (flat svC S')
  tak : W.ownsRow tb 35 5 vt T.length (flat peC T)
  lone : LoneE W L
  below : Below B w W
  keeps : Keeps l v s w W
  vb : v'.ownBlock = v.ownBlock
  sb : s'.ownBlock = s.ownBlock
  apart : ∀ p, vt.ownBlock = some p → v.ownBlock ≠ some p
  base : B ≤ l

theorem ToM.facts {B l q tb : Nat} {v s v' s' : Value} {L' : List PE} {S' : List Sv} {vt : Value} {T L : List PE} {w W : World} (h : ToM B l q tb v s v' s' L' S' vt T L w W) : W.cell? ⟨l, 1, none⟩ = some v' ∧ W.cell? ⟨l, 2, none⟩ = some s' ∧ W.frozen? ⟨l, 1, none⟩ = false ∧ W.frozen? ⟨l, 2, none⟩ = false ∧ l < W.heap.size :=
  ⟨cell_of_row _ _ _ _ _ _ h.box, cell_of_row _ _ _ _ _ _ h.box, frozen_of_row _ _ _ _ _ h.box, frozen_of_row _ _ _ _ _ h.box, (Array.getElem?_eq_some_iff.1 h.box).1⟩

theorem ToM.drew {B l q tb : Nat} {v s v' s' : Value} {L' : List PE} {S' : List Sv} {vt : Value} {T L : List PE} {w W : World} (h : ToM B l q tb v s v' s' L' S' vt T L w W) : ToM B l q tb v s v' s' L' S' vt T L w W.drew :=
  ⟨h.box, h.own, h.sav, h.tak, h.lone.kind fun _ _ _ => rfl, h.below.drew, h.keeps, h.vb, h.sb, h.apart, h.base⟩

/-- The entries are cut. -/
theorem ToM.firstE {B l q tb : Nat} {v s s' : Value} {a : Option Addr} {n c m : Nat} {L' : List PE} {S' : List Sv} {vt : Value} {T L : List PE} {w W W1 : World} (h : ToM B l q tb v s (.slice a n c) s' L' S' vt T L w W) (F : FirstO peC 35 5 B a n c m L' W W1) (hm : m ≤ L'.length) :
    (W1.heap[l]? = some (.cells #[.int .i64 (q : Int), .slice a n c, s'] 64 (0, 0))) ∧ ToM B l q tb v s (.slice a m c) s' (L'.take m) S' vt T L w (W1.setCell ⟨l, 1, none⟩ (.slice a m c)) := by
  have hne : ∀ {g e : Nat} {cur : Array Value}, W.heap[g]? = some (Obj.cells cur e (0, 0)) → e ≠ 35 → W1.heap[g]? = some (Obj.cells cur e (0, 0)) := fun hg he => by
    rw [F.keep _ (owns_far h.own hg (Ne.symm he))]; exact hg
  have hbox := hne h.box (by decide)
  have hns : ∀ {g e : Nat} {cur : Array Value}, W.heap[g]? = some (Obj.cells cur e (0, 0)) → e ≠ 35 → e ≠ 64 → (W1.setCell ⟨l, 1, none⟩ (.slice a m c)).heap[g]? = some (Obj.cells cur e (0, 0)) := fun hg he hl => by
    rw [heap_setCell_other _ _ _ _ (by rintro rfl; rw [h.box] at hg; cases hg; exact hl rfl)]
    exact hne hg he
  have hab : Value.ownBlock (.slice a m c) = Value.ownBlock (.slice a n c) := by cases a <;> rfl
  have hlt : ∀ p, Value.ownBlock (.slice a n c) = some p → p ≠ l := fun p hp e => owns_far h.own h.box (by decide) (e ▸ hp)
  refine ⟨hbox, ⟨?_, ?_, ?_, ?_, ?_, F.below |> fun b => (h.below.trans b).setCell h.base _, fun b hb h1 h2 h3 => ?_, hab.trans h.vb, h.sb, h.apart, h.base⟩⟩
  · rw [heap_setCell_same _ _ _ _ _ _ hbox]; rfl
  · rw [List.length_take, Nat.min_eq_left hm]
    exact owns_below F.own fun p hp => heap_setCell_other _ _ _ _ (hlt p (hab ▸ hp))
  · exact owns_below h.sav fun p hp => by obtain ⟨cur, hc⟩ := owns_block h.sav hp; rw [hc]; exact hns hc (by decide) (by decide)
  · refine owns_below h.tak fun p hp => ?_
    rw [heap_setCell_other _ _ _ _ (fun e => owns_far h.tak h.box (by decide) (show vt.ownBlock = some l by rw [hp]; exact congrArg some e)), F.keep p (by rw [h.vb]; exact h.apart p hp)]
  · exact h.lone.kind fun p cur hp => by rw [hp]; exact hns hp (by decide) (by decide)
  · rw [heap_setCell_other _ _ _ _ h1, F.keep b (by rw [h.vb]; exact h2), h.keeps b hb h1 h2 h3]

/-- The savepoints are cut. -/
theorem ToM.firstS {B l q tb : Nat} {v s v' : Value} {a : Option Addr} {n c m : Nat} {L' : List PE} {S' : List Sv} {vt : Value} {T L : List PE} {w W W1 : World} (h : ToM B l q tb v s v' (.slice a n c) L' S' vt T L w W) (F : FirstO svC 69 2 B a n c m S' W W1) (hm : m ≤ S'.length) :
    (W1.heap[l]? = some (.cells #[.int .i64 (q : Int), v', .slice a n c] 64 (0, 0))) ∧ ToM B l q tb v s v' (.slice a m c) L' (S'.take m) vt T L w (W1.setCell ⟨l, 2, none⟩ (.slice a m c)) := by
  have hne : ∀ {g e : Nat} {cur : Array Value}, W.heap[g]? = some (Obj.cells cur e (0, 0)) → e ≠ 69 → W1.heap[g]? = some (Obj.cells cur e (0, 0)) := fun hg he => by
    rw [F.keep _ (owns_far h.sav hg (Ne.symm he))]; exact hg
  have hbox := hne h.box (by decide)
  have hns : ∀ {g e : Nat} {cur : Array Value}, W.heap[g]? = some (Obj.cells cur e (0, 0)) → e ≠ 69 → e ≠ 64 → (W1.setCell ⟨l, 2, none⟩ (.slice a m c)).heap[g]? = some (Obj.cells cur e (0, 0)) := fun hg he hl => by
    rw [heap_setCell_other _ _ _ _ (by rintro rfl; rw [h.box] at hg; cases hg; exact hl rfl)]
    exact hne hg he
  have hab : Value.ownBlock (.slice a m c) = Value.ownBlock (.slice a n c) := by cases a <;> rfl
  have hlt : ∀ p, Value.ownBlock (.slice a n c) = some p → p ≠ l := fun p hp e => owns_far h.sav h.box (by decide) (e ▸ hp)
  refine ⟨hbox, ⟨?_, ?_, ?_, ?_, ?_, (h.below.trans F.below).setCell h.base _, fun b hb h1 h2 h3 => ?_, h.vb, hab.trans h.sb, h.apart, h.base⟩⟩
  · rw [heap_setCell_same _ _ _ _ _ _ hbox]; rfl
  · exact owns_below h.own fun p hp => by obtain ⟨cur, hc⟩ := owns_block h.own hp; rw [hc]; exact hns hc (by decide) (by decide)
  · rw [List.length_take, Nat.min_eq_left hm]
    exact owns_below F.own fun p hp => heap_setCell_other _ _ _ _ (hlt p (hab ▸ hp))
  · exact owns_below h.tak fun p hp => by obtain ⟨cur, hc⟩ := owns_block h.tak hp; rw [hc]; exact hns hc (by decide) (by decide)
  · exact h.lone.kind fun p cur hp => by rw [hp]; exact hns hp (by decide) (by decide)
  · rw [heap_setCell_other _ _ _ _ h1, F.keep b (by rw [h.sb]; exact h3), h.keeps b hb h1 h2 h3]

/-- The savepoints that were made at n entries or fewer. -/
def upto (n : Nat) (S : List Sv) : List Sv := S.filter fun x => decide (x.2 ≤ n)

theorem upto_all {n : Nat} {S : List Sv} (h : ∀ x ∈ S, x.2 ≤ n) : upto n S = S := List.filter_eq_self.2 fun x hx => by simpa using h x hx

theorem savedBy_upto {S : List Sv} {n k : Nat} (ho : S.Pairwise fun x y => x.2 ≤ y.2) (h : SavedBy S n k) : S.take k = upto n S := by
  obtain ⟨h1, h2, h3⟩ := h
  have e := List.take_append_drop k S
  unfold upto
  conv => rhs; rw [← e]
  rw [List.filter_append]
  have ha : (S.take k).filter (fun x => decide (x.2 ≤ n)) = S.take k := List.filter_eq_self.2 fun x hx => by
    obtain ⟨j, hj⟩ := List.getElem?_of_mem hx
    rw [List.getElem?_take] at hj
    split at hj
    · rename_i hjk
      obtain ⟨hjl, rfl⟩ := List.getElem?_eq_some_iff.1 hj
      have hy := h3 _ (by omega) (List.getElem?_eq_getElem (l := S) (i := k - 1) (by omega))
      by_cases ejk : j = k - 1
      · subst ejk; simpa using hy
      · have := List.pairwise_iff_getElem.1 ho j (k - 1) hjl (by omega) (by omega)
        simp; omega
    · cases hj
  have hb : (S.drop k).filter (fun x => decide (x.2 ≤ n)) = [] := List.filter_eq_nil_iff.2 fun x hx => by
    obtain ⟨j, hj⟩ := List.getElem?_of_mem hx
    rw [List.getElem?_drop] at hj
    have := h2 _ x (by omega) hj
    simp; omega
  rw [ha, hb, List.append_nil]

theorem upto_take {S : List Sv} {k : Nat} {x : Sv} (ho : S.Pairwise fun x y => x.2 ≤ y.2) (hx : S[k]? = some x) : k < (upto x.2 S).length ∧ (upto x.2 S).take (k + 1) = S.take (k + 1) := by
  obtain ⟨hk, hkx⟩ := List.getElem?_eq_some_iff.1 hx
  have ha : (S.take (k + 1)).filter (fun y => decide (y.2 ≤ x.2)) = S.take (k + 1) := List.filter_eq_self.2 fun y hy => by
    obtain ⟨j, hj⟩ := List.getElem?_of_mem hy
    rw [List.getElem?_take] at hj
    split at hj
    · rename_i hjk
      obtain ⟨hjl, rfl⟩ := List.getElem?_eq_some_iff.1 hj
      by_cases ejk : j = k
      · subst ejk; rw [hkx]; simp
      · have := List.pairwise_iff_getElem.1 ho j k hjl hk (by omega)
        rw [hkx] at this
        simpa using this
    · cases hj
  have eu : upto x.2 S = S.take (k + 1) ++ upto x.2 (S.drop (k + 1)) := by
    have e : upto x.2 (S.take (k + 1) ++ S.drop (k + 1)) = S.take (k + 1) ++ upto x.2 (S.drop (k + 1)) := by
      unfold upto
      rw [List.filter_append, ha]
    rwa [List.take_append_drop] at e
  have hl : (S.take (k + 1)).length = k + 1 := by rw [List.length_take]; omega
  refine ⟨by rw [eu, List.length_append, hl]; omega, ?_⟩
  rw [eu, List.take_append_of_le_length (by omega), List.take_of_length_le (by omega)]

theorem ToM.lg {B l q tb : Nat} {v s v' s' : Value} {L' : List PE} {S' : List Sv} {vt : Value} {T L : List PE} {w W : World} (h : ToM B l q tb v s v' s' L' S' vt T L w W) (hL : ∀ x ∈ L', x ∈ L) (ho : S'.Pairwise fun x y => x.2 ≤ y.2) (ht : ∀ x ∈ S', x.2 ≤ L'.length) : Lg B l q v' s' L' S' W :=
  ⟨h.box, h.base, h.own, h.sav, h.lone.sub hL, ho, ht⟩

/-- What To leaves, and answers. -/
structure ToO (B l q n : Nat) (v s v' s' : Value) (L : List PE) (S : List Sv) (vt : Value) (w W : World) : Prop where
  lg : Lg B l q v' s' (L.take n) (upto n S) W
  tak : W.ownsRow w.heap.size 35 5 vt (L.drop n).length (flat peC (L.drop n).reverse)
  lone : LoneE W L
  below : Below B w W
  keeps : Keeps l v s w W
  sb : s'.ownBlock = s.ownBlock
  vb : v'.ownBlock = v.ownBlock

set_option maxRecDepth 100000 in
theorem to_nil (m : Int) (w : World) : Calls Try.prog 17 #[.pointer none, .int .i64 m] w fun e w' => e = .returned (.slice none 0 0) ∧ w' = w := by
  go_enter Try.func17, Try.ntmps17
  go_wp2_with (go_at_call 19; refine (len_nil _).mono ?_; rintro e w' ⟨rfl, rfl⟩)
  all_goals
    go_ret
    exact ⟨rfl, rfl⟩
end Go.Proofs.Ytdiagnmkfnhnjaa
