/-
  The document's Cut.
-/
import Derived.Test.YtgpahhlmpdnbpaaSpF
namespace Go.Proofs.Ytgpahhlmpdnbpaa
open Go.RowKit

/-- A world behind the boxing of a node that can be read. -/
structure Nq (w : World) (n : No) (a : Option Addr) (c : Nat) (a' : Option Addr) (c' : Nat) (wr : World) : Prop where
  bx : Bx w n a c a' c' wr
  nr : NR wr n a c a' c'

theorem Nq.on {w : World} {n : No} {a : Option Addr} {c : Nat} {a' : Option Addr} {c' : Nat} {wr wr' : World} (h : Nq w n a c a' c' wr) (hb : Below wr.heap.size wr wr') : Nq w n a c a' c' wr' := ⟨h.bx.on hb, h.nr.below hb⟩

theorem Nq.new {w : World} {n : No} {a : Option Addr} {c : Nat} {a' : Option Addr} {c' : Nat} (hr : NR w n a c a' c') (t : TypeId) : Nq w n a c a' c' (w.alloc (.cells #[.bool n.leaf, .slice a n.recs.length c, .slice a' n.kids.length c'] t)) := ⟨Bx.new w n a c a' c' t, hr.below (below_alloc _ _)⟩

/-- A world in which all that W holds still stands. -/
structure BelowW (W : World) where
  w : World
  below : Below W.heap.size W w

theorem wp_region_below {P : Program} {id : Nat} {Q : Exit → Act → World → Prop} {a : Act} {W : World} {l : List Oper} (hm : P.follows .mixedOrders = true) (hB : Region.lexB .any l.toArray = true)
    (h : Nonempty (BelowW W) → wpQuiet P l.toArray (fun w' => ∃ q : BelowW W, w' = q.w) (fun a' => ∀ w', (∃ q : BelowW W, w' = q.w) → Q .normal a' w') l a) : (Code.region id l.toArray true).wp P Q a W :=
  wp_region_quiet (C := fun w' => ∃ q : BelowW W, w' = q.w) hm hB ⟨⟨{ W with drawn := W.drawn + 1 }, (Below.refl _ _).drew⟩, rfl⟩ (by simpa using h ⟨⟨W, Below.refl _ _⟩⟩)

theorem quiet_of_below {P : Program} {f : FuncId} {args : Array Value} {W : World} {q : BelowW W} {v : Value} (h : Calls P f args q.w fun e w' => e = .returned v ∧ Below q.w.heap.size q.w w') :
    Calls P f args q.w fun e w'' => e = .returned v ∧ ∃ q' : BelowW W, w'' = q'.w :=
  h.mono fun _ w' ⟨he, hb⟩ => ⟨he, ⟨w', below_on q.below hb⟩, rfl⟩

/-- The heaviest side's function and its gap, by the kind. -/
def No.gap (n : No) : Nat := if n.leaf then 0 else 1
def No.hv (n : No) (k : Nat) : Nat := if n.leaf then heavy 4 0 n.recs k else heavy 8 1 n.recs k
def No.cut (n : No) : Nat := minAt n.hv (n.recs.length - n.gap - 2)

theorem cut_leaf {n : No} (h : n.leaf = true) : n.cut = cutN 4 0 n.recs := by
  unfold No.cut cutN No.gap
  rw [if_pos h]
  congr 1
  funext k
  unfold No.hv
  rw [if_pos h]

theorem cut_inner {n : No} (h : n.leaf = false) : n.cut = cutN 8 1 n.recs := by
  unfold No.cut cutN No.gap
  rw [h]
  congr 1
  funext k
  unfold No.hv
  rw [h]
  rfl

theorem side_some {n : No} {k : Nat} (h : k + n.gap < n.recs.length) : sideI n k = (n.hv k : Int) := by
  unfold sideI No.hv
  unfold No.gap at h
  cases hl : n.leaf
  · rw [hl] at h
    simp at h
    rw [if_neg (by decide), if_pos h, if_neg (by decide)]
  · rw [if_pos rfl, if_pos rfl]

theorem side_none {n : No} {k : Nat} (hk : k < n.recs.length) (h : ¬ k + n.gap < n.recs.length) : sideI n k = -1 := by
  unfold sideI
  unfold No.gap at h
  cases hl : n.leaf
  · rw [hl] at h
    simp at h
    rw [if_neg (by decide), if_neg (by omega)]
  · rw [hl] at h
    simp at h
    omega

set_option maxRecDepth 100000 in
set_option maxHeartbeats 1000000 in
theorem cut_walk {n : No} {a : Option Addr} {c : Nat} {a' : Option Addr} {c' : Nat} {w : World} (hr : NR w n a c a' c') (hs : n.small) (h2 : n.gap + 2 ≤ n.recs.length) :
    Calls Try.prog 10 #[nodeV n a c a' c'] w fun e w' => e = .returned (.int .i64 (n.cut : Int)) ∧ Below w.heap.size w w' := by
  have h1 := hs.recs
  have HX : Hid (Nq w n a c a' c' (w.alloc (.cells #[.bool n.leaf, .slice a n.recs.length c, .slice a' n.kids.length c'] 27))) := Nq.new hr _
  have hgap : n.gap ≤ 1 := by unfold No.gap; split <;> omega
  have HSD : Hid (∀ (wr : World) (kk : Nat) (x : Int), Nq w n a c a' c' wr → 1 ≤ kk → kk < n.recs.length → x = (kk : Int) → ∀ q : BelowW wr, Calls Try.prog 17 #[.agg #[.bool n.leaf, .slice a n.recs.length c, .slice a' n.kids.length c'], .int .i64 x] q.w fun e w'' => e = .returned (.int .i64 (sideI n kk)) ∧ Below q.w.heap.size q.w w'') := fun wr kk x hq h1 h2 hx q => side_walk (n := n) (hq.on q.below).nr hs kk h1 h2 hx
  clear hr
  go_enter Try.func10, Try.ntmps10
  unfold nodeV
  go_wp2
  go_loopw [3, 4] (fun x i wr => ∃ j bb : Nat, j < n.recs.length ∧ i = .int .i64 ((j + 1 : Nat) : Int) ∧ x = .int .i64 (bb : Int) ∧ Hid (bb = if j = 0 then 0 else minAt n.hv (min (j - 1) (n.recs.length - n.gap - 2))) ∧ Hid (Nq w n a c a' c' wr)) (fun _ i _ => n.recs.length - (intOf i).toNat)
  case atStart => exact ⟨0, 0, by omega, rfl, rfl, rfl, HX⟩
  case round =>
    obtain ⟨j, bb, hj, rfl, rfl, HBB, HX⟩ := hrel
    have x0 : ∀ q : BelowW wr, q.w.cell? ⟨w.heap.size, 0, none⟩ = some (.bool n.leaf) := fun q => (HX.out.on q.below).bx.c0
    have x1 : ∀ q : BelowW wr, q.w.cell? ⟨w.heap.size, 1, none⟩ = some (.slice a n.recs.length c) := fun q => (HX.out.on q.below).bx.c1
    have x2 : ∀ q : BelowW wr, q.w.cell? ⟨w.heap.size, 2, none⟩ = some (.slice a' n.kids.length c') := fun q => (HX.out.on q.below).bx.c2
    have y1 := HX.out.bx.c1
    have xl := HX.out.bx.lt
    by_cases hlt : j + 1 < n.recs.length
    · have hlt' : ((j + 1 : Nat) : Int) < (n.recs.length : Int) := by omega
      have HC1 := HSD.out wr (j + 1) ((j : Int) + 1) HX.out (by omega) hlt (by omega)
      have HMono : Hid (∀ q : BelowW wr, Nq w n a c a' c' q.w) := fun q => HX.out.on q.below
      by_cases hj0 : j = 0
      · have hb0 : bb = 0 := by have := HBB.out; rwa [if_pos hj0] at this
        subst hj0 hb0
        have d1 : decide (0 ≤ sideI n (0 + 1)) = true := by rw [side_some (by omega)]; simp
        generalize sideI n (0 + 1) = S1 at *
        go_wp2
        refine wp_region_below (by kernel_rfl) (by kernel_rfl) (fun _ => ?_)
        repeat (go_big_quiet_step (first | (go_at_call 17; exact quiet_of_below (HC1 _))))
        refine wpQuiet_nil ?_
        rintro _ ⟨q, rfl⟩
        have HQ : Hid (Nq w n a c a' c' q.w) := HMono.out q
        clear HC1 x0 x1 x2
        go_wp2
        exact ⟨⟨1, 1, hlt, by go_num, by go_num, by show 1 = _; rw [if_neg (by decide), show (1 - 1) = 0 from rfl, Nat.zero_min]; rfl, HQ⟩, by simp [intOf]; omega⟩
      · have hbb := HBB.out
        rw [if_neg hj0] at hbb
        have hml := minAt_le n.hv (min (j - 1) (n.recs.length - n.gap - 2))
        rw [← hbb] at hml
        have hmin1 : min (j - 1) (n.recs.length - n.gap - 2) ≤ n.recs.length - n.gap - 2 := Nat.min_le_right _ _
        have HBB2 : Hid (bb = minAt n.hv (min (j - 1) (n.recs.length - n.gap - 2))) := hbb
        have hb1 : 1 ≤ bb := hml.1
        have hb2 : bb + n.gap < n.recs.length := by omega
        have HC2 := HSD.out wr bb (bb : Int) HX.out hb1 (by omega) rfl
        rw [side_some hb2] at HC2
        have e0 : ((bb : Int) == 0) = false := by rw [beq_eq_false_iff_ne]; omega
        clear hbb hml hmin1 HBB
        by_cases hg : j + 1 + n.gap < n.recs.length
        · rw [side_some hg] at HC1
          have d1 : decide (0 ≤ (n.hv (j + 1) : Int)) = true := by simp
          have HM : Hid (min (j - 1) (n.recs.length - n.gap - 2) = j - 1 ∧ min j (n.recs.length - n.gap - 2) = (j - 1) + 1 ∧ j - 1 + 2 = j + 1) := by
            refine ⟨?_, ?_, ?_⟩ <;> omega
          by_cases hcmp : n.hv (j + 1) < n.hv bb
          · have d2 : decide ((n.hv (j + 1) : Int) < (n.hv bb : Int)) = true := by simpa using hcmp
            have HE : Hid (j + 1 = minAt n.hv (min j (n.recs.length - n.gap - 2))) := by
              show j + 1 = _
              have hb := HBB2.out
              rw [HM.out.1] at hb
              rw [HM.out.2.1, minAt_pos n.hv (j - 1) (by rw [HM.out.2.2, ← hb]; exact hcmp), HM.out.2.2]
            generalize n.hv (j + 1) = S1 at *
            generalize n.hv bb = S2 at *
            go_wp2
            refine wp_region_below (by kernel_rfl) (by kernel_rfl) (fun _ => ?_)
            repeat (go_big_quiet_step (first | (go_at_call 17; with_reducible exact quiet_of_below (HC1 _)) | (go_at_call 17; with_reducible exact quiet_of_below (HC2 _))))
            refine wpQuiet_nil ?_
            rintro _ ⟨q, rfl⟩
            have HQ : Hid (Nq w n a c a' c' q.w) := HMono.out q
            clear HC1 HC2 x0 x1 x2
            go_wp2
            exact ⟨⟨j + 1, j + 1, hlt, by go_num, by go_num, by show j + 1 = _; rw [if_neg (by omega), Nat.add_sub_cancel]; exact HE.out, HQ⟩, by simp [intOf]; omega⟩
          · have d2 : decide ((n.hv (j + 1) : Int) < (n.hv bb : Int)) = false := by simp; omega
            have HE : Hid (bb = minAt n.hv (min j (n.recs.length - n.gap - 2))) := by
              show bb = _
              have hb := HBB2.out
              rw [HM.out.1] at hb
              rw [HM.out.2.1, minAt_neg n.hv (j - 1) (by rw [HM.out.2.2, ← hb]; exact hcmp)]
              exact hb
            generalize n.hv (j + 1) = S1 at *
            generalize n.hv bb = S2 at *
            go_wp2
            refine wp_region_below (by kernel_rfl) (by kernel_rfl) (fun _ => ?_)
            repeat (go_big_quiet_step (first | (go_at_call 17; with_reducible exact quiet_of_below (HC1 _)) | (go_at_call 17; with_reducible exact quiet_of_below (HC2 _))))
            refine wpQuiet_nil ?_
            rintro _ ⟨q, rfl⟩
            have HQ : Hid (Nq w n a c a' c' q.w) := HMono.out q
            clear HC1 HC2 x0 x1 x2
            go_wp2
            exact ⟨⟨j + 1, bb, hlt, by go_num, by go_num, by show bb = _; rw [if_neg (by omega), Nat.add_sub_cancel]; exact HE.out, HQ⟩, by simp [intOf]; omega⟩
        · rw [side_none hlt hg] at HC1
          have HE : Hid (bb = minAt n.hv (min j (n.recs.length - n.gap - 2))) := by
            show bb = _
            have hb := HBB2.out
            rw [show min (j - 1) (n.recs.length - n.gap - 2) = n.recs.length - n.gap - 2 by omega] at hb
            rw [show min j (n.recs.length - n.gap - 2) = n.recs.length - n.gap - 2 by omega]
            exact hb
          clear HC2
          go_wp2
          refine wp_region_below (by kernel_rfl) (by kernel_rfl) (fun _ => ?_)
          repeat (go_big_quiet_step (first | (go_at_call 17; exact quiet_of_below (HC1 _))))
          refine wpQuiet_nil ?_
          rintro _ ⟨q, rfl⟩
          have HQ : Hid (Nq w n a c a' c' q.w) := HMono.out q
          clear HC1 x0 x1 x2
          go_wp2
          exact ⟨⟨j + 1, bb, hlt, by go_num, by go_num, by show bb = _; rw [if_neg (by omega), Nat.add_sub_cancel]; exact HE.out, HQ⟩, by simp [intOf]; omega⟩
    · have hlt' : (n.recs.length : Int) ≤ ((j + 1 : Nat) : Int) := by omega
      have HE : Hid (n.cut = bb) := by
        show n.cut = bb
        have hb := HBB.out
        rw [if_neg (by omega), show min (j - 1) (n.recs.length - n.gap - 2) = n.recs.length - n.gap - 2 by omega] at hb
        rw [hb]
        rfl
      clear x0 x1 x2
      go_wp2
      go_ret
      exact ⟨ret_int (by rw [HE.out]), HX.out.bx.below⟩
end Go.Proofs.Ytgpahhlmpdnbpaa
