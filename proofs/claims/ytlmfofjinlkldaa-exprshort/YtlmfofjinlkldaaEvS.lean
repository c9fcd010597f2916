/-
  ExprShort: the walk.
-/
import Derived.Test.YtlmfofjinlkldaaEvM
import Derived.Test.YtlmfofjinlkldaaEvO
namespace Go.Proofs.Ytlmfofjinlkldaa
open Go.RowKit

theorem slg_two {W : World} {b : Nat} {x y : NL} {fz : Nat × Nat} (h : W.heap[b]? = some (.cells (nC x ++ nC y).toArray 67 fz)) : Rw.SlG nC 7 W (some ⟨b, 0, none⟩) [x, y] := by
  refine Or.inr ⟨b, 0, rfl, (Array.getElem?_eq_some_iff.1 h).1, fun j k hj i u hu => ?_⟩
  rw [Nat.zero_add, cell_of_row _ _ _ _ _ _ h]
  have := Rw.flat_at nC_len [x, y] j k hj i u hu
  simpa [Rw.flat] using this

def opX (op : ByteArray) (p : Nat) (x y : NL) : NL := .mk op 0 0 ⟨#[]⟩ 0 0 (some ⟨p, 0, none⟩) 2 [x, y]
theorem opX_in {W : World} {p : Nat} {x y : NL} {op : ByteArray} (hop : op.size ≤ 6) (h : Rw.SlG nC 7 W (some ⟨p, 0, none⟩) [x, y]) (hx : ∀ n, InN n W x) (hy : ∀ n, InN n W y) : ∀ n, InN n W (opX op p x y)
  | 0 => trivial
  | n + 1 => ⟨⟨show fits 0 = true from rfl, show fits 0 = true from rfl, Nat.le_trans hop (by unfold maxLen; omega), by show (0 : Nat) ≤ 281474976710656; omega, by show 2 ≤ 1599289640401; omega⟩, h, fun k hk => by
    have hk' : k ∈ [x, y] := hk
    simp only [List.mem_cons, List.not_mem_nil, or_false] at hk'
    rcases hk' with rfl | rfl
    · exact hx n
    · exact hy n⟩
theorem opX_deep {p : Nat} {x y : NL} {op : ByteArray} (hx : deepN 40 x = false) (hy : deepN 40 y = false) : deepN 41 (opX op p x y) = false := by
  show [x, y].any (deepN 40) = false
  simp [hx, hy]
theorem opX_and (rs : List RowL) (p : Nat) (x y : NL) : evN 41 rs (opX ⟨#[97, 110, 100]⟩ p x y) = evBoth 0 tAnd (evN 40 rs x) (evN 40 rs y) := by
  have e : (⟨#[97, 110, 100]⟩ : ByteArray).toList = [97, 110, 100] := by rw [ByteArray.toList_eq]
  have hk : kidsN ⟨#[97, 110, 100]⟩ = 2 := by unfold kidsN; rw [e]; decide
  show evN (40 + 1) rs _ = _
  rw [evN]
  simp only [opX, NL.kids, NL.op, hk, e]
  rfl
theorem opX_or (rs : List RowL) (p : Nat) (x y : NL) : evN 41 rs (opX ⟨#[111, 114]⟩ p x y) = evBoth 1 tOr (evN 40 rs x) (evN 40 rs y) := by
  have e : (⟨#[111, 114]⟩ : ByteArray).toList = [111, 114] := by rw [ByteArray.toList_eq]
  have hk : kidsN ⟨#[111, 114]⟩ = 2 := by unfold kidsN; rw [e]; decide
  show evN (40 + 1) rs _ = _
  rw [evN]
  simp only [opX, NL.kids, NL.op, hk, e]
  rfl

/-- What the statement asks of either op. -/
def ShortB (r q : VE) (n : Int) : Prop := (r.2 ≠ 0 → q = (vz, r.2)) ∧ (r.2 = 0 → r.1.k = 1 → r.1.n = n → q = (⟨1, n, ⟨#[]⟩⟩, 0))
theorem short_both (s : Int) (hs : s = 0 ∨ s = 1) (j : Int → Int → Int) (r q : VE) : ShortB r (evBoth s j r q) s := by
  refine ⟨fun h => ?_, fun h hk hn => ?_⟩
  · have ht : trE r = (0, r.2) := by unfold trE; rw [if_neg (by simpa using h)]
    unfold evBoth
    rw [ht, if_neg (by simpa using h)]
  · have ht : trE r = (s, 0) := by
      unfold trE
      rw [if_pos (by simp [h])]
      rcases hs with rfl | rfl <;> simp [truthE, truthT, hk, hn]
    unfold evBoth
    rw [ht]
    simp only [beq_self_eq_true, if_true]
    rcases hs with rfl | rfl <;> rfl

set_option maxRecDepth 100000 in
set_option maxHeartbeats 1000000 in
theorem exprShort_walk (x y : NL) {ra : Option Addr} {rs : List RowL} {rc : Nat} (w : World) (hx : ∀ n, InN n w x) (hy : ∀ n, InN n w y) (hR : RowsIn w ra rs) (hF : RowsFit rs)
    (hA0 : ∀ W, Calls Try.prog 15 #[] W fun e W' => e = .returned (.bool true) ∧ Below W.heap.size W W') :
    Calls Try.prog 5 #[nV x, nV y, .slice ra rs.length rc] w fun e W => e = .returned (.bool true) ∧ Below w.heap.size w W := by
  have HA := Rw.dh hA0
  have HX := Rw.dh hx
  have HY := Rw.dh hy
  have HR := Rw.dh hR
  have HF := Rw.dh hF
  clear hA0 hx hy hR hF
  unfold nV
  go_enter Try.func5, Try.ntmps5
  go_wp2_with fail
  refine (HA.out _).mono ?_
  rintro e w1 ⟨rfl, hb1⟩
  have p0 : w1.heap[w.heap.size]? = some (.cells (nC x).toArray 67 (0, 0)) := (hb1.block _ (by simp; omega)).trans ((Below.heap_alloc _ _ _ (by simp)).trans (Rw.heap_new w _))
  have p1 : w1.heap[w.heap.size + 1]? = some (.cells (nC y).toArray 67 (0, 0)) := (hb1.block _ (by simp)).trans (heap_two w _ _)
  have HP0 := Rw.dh p0
  have HP1 := Rw.dh p1
  have HB1 := Rw.dh (below_on (below_two w _ _) hb1)
  obtain ⟨a0, a1, a2, a3, a4, a5, a6⟩ := ncells p0
  obtain ⟨b0, b1, b2, b3, b4, b5, b6⟩ := ncells p1
  clear hb1 p0 p1
  go_wp2_with fail
  have hL := long_walk (l := [x, y]) (a := some ⟨w1.heap.size, 0, none⟩) (c := 2) (ra := ra) (rs := rs) (rc := rc) (w := w1.alloc (.cells (nC x ++ nC y).toArray 67)) (slg_two (Rw.heap_new _ _)) (fun k hk => by
    simp only [List.mem_cons, List.not_mem_nil, or_false] at hk
    rcases hk with rfl | rfl
    · exact (HX.out 40).on (HB1.out.alloc HB1.out.size _)
    · exact (HY.out 40).on (HB1.out.alloc HB1.out.size _)) (by show 2 ≤ 1599289640401; omega) (HR.out.on (HB1.out.alloc HB1.out.size _)) HF.out.1
  refine hL.mono ?_
  clear hL
  rintro e w2 ⟨B, rfl, hB, hb2⟩
  have HB2 := Rw.dh (below_on HB1.out (below_on (Rw.below_alloc w1 _) hb2))
  have hp0 : w2.heap[w.heap.size]? = some (.cells (nC x).toArray 67 (0, 0)) := ((below_on (Rw.below_alloc w1 _) hb2).block _ (Array.getElem?_eq_some_iff.1 HP0.out).1).trans HP0.out
  have hp1 : w2.heap[w.heap.size + 1]? = some (.cells (nC y).toArray 67 (0, 0)) := ((below_on (Rw.below_alloc w1 _) hb2).block _ (Array.getElem?_eq_some_iff.1 HP1.out).1).trans HP1.out
  have HB := Rw.dh hB
  clear hb2 hB HP0 HP1 HB1 a0 a1 a2 a3 a4 a5 a6 b0 b1 b2 b3 b4 b5 b6
  have HP0 := Rw.dh hp0
  have HP1 := Rw.dh hp1
  obtain ⟨a0, a1, a2, a3, a4, a5, a6⟩ := ncells hp0
  clear hp0 hp1
  cases B with
  | true =>
    go_wp2
    go_ret
    exact ⟨rfl, HB2.out⟩
  | false =>
    have hdx : deepN 40 x = false := (HB.out rfl).1 x (by simp)
    have hdy : deepN 40 y = false := (HB.out rfl).1 y (by simp)
    have hE := evalF_walk (n := 40) (by decide) (rc := rc) HF.out x ((HX.out 40).on HB2.out) hdx (HR.out.on HB2.out)
    have HQ1 : Hid (∀ p, ShortB (evN 40 rs x) (evN 41 rs (opX ⟨#[97, 110, 100]⟩ p x y)) 0) := fun p => by rw [opX_and]; exact short_both 0 (Or.inl rfl) _ _ _
    have HQ2 : Hid (∀ p, ShortB (evN 40 rs x) (evN 41 rs (opX ⟨#[111, 114]⟩ p x y)) 1) := fun p => by rw [opX_or]; exact short_both 1 (Or.inr rfl) _ _ _
    have HV : Hid (∀ op p W, op.size ≤ 6 → Below w.heap.size w W → W.heap[p]? = some (.cells (nC x ++ nC y).toArray 67 (0, 0)) → Calls Try.prog 20 #[nV (opX op p x y), .slice ra rs.length rc] W fun e w' => e = .returned (.tuple #[vvV (evN 41 rs (opX op p x y)).1, .int .i64 (evN 41 rs (opX op p x y)).2]) ∧ Below W.heap.size W w') := fun op p W hop hb hh =>
      evalF_walk (n := 41) (by decide) HF.out (opX op p x y) (opX_in hop (slg_two hh) (fun n => (HX.out n).on hb) (fun n => (HY.out n).on hb) 41) (opX_deep hdx hdy) (HR.out.on hb)
    clear HX HY HR HF HB hdx hdy HA
    generalize evN 40 rs x = r at *
    unfold nV at hE
    go_wp2_with fail
    refine hE.mono ?_
    clear hE
    rintro e w3 ⟨rfl, hb3⟩
    have HB3 := Rw.dh (below_on HB2.out hb3)
    have hp0 := (hb3.block _ (Array.getElem?_eq_some_iff.1 HP0.out).1).trans HP0.out
    have hp1 := (hb3.block _ (Array.getElem?_eq_some_iff.1 HP1.out).1).trans HP1.out
    clear hb3 HP0 HP1 HB2 a0 a1 a2 a3 a4 a5 a6
    have HP0 := Rw.dh hp0
    have HP1 := Rw.dh hp1
    clear hp0 hp1
    obtain ⟨⟨uk, un, us⟩, c⟩ := r
    unfold vvV valV
    go_wp2_with fail
    have hq0 : (w3.alloc (.cells #[.int .i64 uk, .int .i64 un, .string us] 44)).heap[w3.heap.size]? = some (.cells #[.int .i64 uk, .int .i64 un, .string us] 44 (0, 0)) := Rw.heap_new _ _
    refine Rw.to_letter (F := fun W => Below w3.heap.size w3 W ∧ W.heap[w3.heap.size]? = some (.cells #[.int .i64 uk, .int .i64 un, .string us] 44 (0, 0)) ∧ w3.heap.size + 1 < W.heap.size ∧ W.cell? ⟨w3.heap.size + 1, 0, none⟩ = some (.string ⟨#[97, 110, 100]⟩) ∧ W.cell? ⟨w3.heap.size + 1, 1, none⟩ = some (.string ⟨#[111, 114]⟩)) ⟨below_two w3 _ _, (Below.heap_alloc _ _ _ (by simp)).trans (Rw.heap_new w3 _), by simp, by simp [go_sem], by simp [go_sem]⟩ ?_
    rintro W4 ⟨hb4, hv4, hl4, t0, t1⟩
    have hp0 := (hb4.block _ (Array.getElem?_eq_some_iff.1 HP0.out).1).trans HP0.out
    have hp1 := (hb4.block _ (Array.getElem?_eq_some_iff.1 HP1.out).1).trans HP1.out
    have HB4 := Rw.dh (below_on HB3.out hb4)
    have H4 := Rw.dh (And.intro hv4 (And.intro hp0 hp1))
    have HT := Rw.dh (And.intro hl4 (And.intro t0 t1))
    clear hb4 hv4 hl4 t0 t1 hp0 hp1 HP0 HP1 HB3 hq0
    go_loopw [29] (fun i wr => ∃ j : Nat, j ≤ 2 ∧ i = .int .i64 (j : Int) ∧ Hid (Below W4.heap.size W4 wr)) (fun i _ => 2 - (intOf i).toNat)
    case atStart => exact ⟨0, by omega, rfl, Below.refl _ _⟩
    case round =>
      obtain ⟨j, hj, rfl, HW⟩ := hrel
      have hv5 := (HW.out.block _ (Array.getElem?_eq_some_iff.1 H4.out.1).1).trans H4.out.1
      have hp0 := (HW.out.block _ (Array.getElem?_eq_some_iff.1 H4.out.2.1).1).trans H4.out.2.1
      have hp1 := (HW.out.block _ (Array.getElem?_eq_some_iff.1 H4.out.2.2).1).trans H4.out.2.2
      have t0 : wr.cell? ⟨w3.heap.size + 1, 0, none⟩ = some (.string ⟨#[97, 110, 100]⟩) := by rw [HW.out.cell HT.out.1]; exact HT.out.2.1
      have t1 : wr.cell? ⟨w3.heap.size + 1, 1, none⟩ = some (.string ⟨#[111, 114]⟩) := by rw [HW.out.cell HT.out.1]; exact HT.out.2.2
      obtain ⟨a0, a1, a2, a3, a4, a5, a6⟩ := ncells hp0
      obtain ⟨b0, b1, b2, b3, b4, b5, b6⟩ := ncells hp1
      have hlA := (Array.getElem?_eq_some_iff.1 hp0).1
      have hlB := (Array.getElem?_eq_some_iff.1 hp1).1
      have HV5 := Rw.dh hv5
      have HB5 := Rw.dh (below_on HB4.out HW.out)
      clear hv5 hp0 hp1
      have hjs : j = 0 ∨ j = 1 ∨ j = 2 := by omega
      rcases hjs with rfl | rfl | rfl
      · go_wp2_with fail
        refine (HV.out ⟨#[97, 110, 100]⟩ (wr.heap.size + 1) _ (by decide) (HB5.out.trans ((below_two wr _ _).mono HB5.out.size)) (heap_two wr _ _)).mono ?_
        rintro e w5 ⟨rfl, hb5⟩
        have HW6 := Rw.dh (below_on HW.out (below_on (below_two wr _ _) hb5))
        have hv6 := (below_on (below_two wr _ _) hb5).block _ (Array.getElem?_eq_some_iff.1 HV5.out).1
        obtain ⟨v0, v1, v2, -, -, -, v6⟩ := vbox (hv6.trans HV5.out) (Below.refl _ _)
        obtain ⟨e0, e1, e2, -, -, -, e6⟩ := vbox ((hb5.block wr.heap.size (by simp; omega)).trans ((Below.heap_alloc _ _ _ (by simp)).trans (Rw.heap_new wr _))) (Below.refl _ _)
        have HQ := Rw.dh (HQ1.out (wr.heap.size + 1))
        clear hb5 hv6 a0 a1 a2 a3 a4 a5 a6 b0 b1 b2 b3 b4 b5 b6 t0 t1 hlA hlB HV5 HV
        generalize evN 41 rs (opX ⟨#[97, 110, 100]⟩ (wr.heap.size + 1) x y) = q at HQ ⊢
        cases hc : (c != 0)
        · have hc0 : c = 0 := by simpa using hc
          subst hc0
          cases h1 : (uk == 1)
          · obtain ⟨⟨qk, qn, qs⟩, qc⟩ := q
            unfold vvV valV
            go_wp2
            go_roundw
            case rel => exact ⟨1, by omega, by go_num, HW6.out.alloc HW6.out.size _⟩
            case measure => simp [intOf]
          · cases h2 : (un == 0)
            · obtain ⟨⟨qk, qn, qs⟩, qc⟩ := q
              unfold vvV valV
              go_wp2
              go_roundw
              case rel => exact ⟨1, by omega, by go_num, HW6.out.alloc HW6.out.size _⟩
              case measure => simp [intOf]
            · cases h3 : (us.toList == [])
              · obtain ⟨⟨qk, qn, qs⟩, qc⟩ := q
                unfold vvV valV
                go_wp2
                go_roundw
                case rel => exact ⟨1, by omega, by go_num, HW6.out.alloc HW6.out.size _⟩
                case measure => simp [intOf]
              · have hq := HQ.out.2 rfl (eq_of_beq h1) (eq_of_beq h2)
                subst hq
                unfold vvV valV
                go_wp2
                go_roundw
                case rel => exact ⟨1, by omega, by go_num, HW6.out.alloc HW6.out.size _⟩
                case measure => simp [intOf]
        · have hq := HQ.out.1 (by simpa using hc)
          subst hq
          unfold vvV valV vz
          have hcc : (c == 0) = false := by simpa [bne] using hc
          go_wp2
          go_roundw
          case rel => exact ⟨1, by omega, by go_num, HW6.out.alloc HW6.out.size _⟩
          case measure => simp [intOf]
      · go_wp2_with fail
        refine (HV.out ⟨#[111, 114]⟩ (wr.heap.size + 1) _ (by decide) (HB5.out.trans ((below_two wr _ _).mono HB5.out.size)) (heap_two wr _ _)).mono ?_
        rintro e w5 ⟨rfl, hb5⟩
        have HW6 := Rw.dh (below_on HW.out (below_on (below_two wr _ _) hb5))
        have hv6 := (below_on (below_two wr _ _) hb5).block _ (Array.getElem?_eq_some_iff.1 HV5.out).1
        obtain ⟨v0, v1, v2, -, -, -, v6⟩ := vbox (hv6.trans HV5.out) (Below.refl _ _)
        obtain ⟨e0, e1, e2, -, -, -, e6⟩ := vbox ((hb5.block wr.heap.size (by simp; omega)).trans ((Below.heap_alloc _ _ _ (by simp)).trans (Rw.heap_new wr _))) (Below.refl _ _)
        have HQ := Rw.dh (HQ2.out (wr.heap.size + 1))
        clear hb5 hv6 a0 a1 a2 a3 a4 a5 a6 b0 b1 b2 b3 b4 b5 b6 t0 t1 hlA hlB HV5 HV
        generalize evN 41 rs (opX ⟨#[111, 114]⟩ (wr.heap.size + 1) x y) = q at HQ ⊢
        cases hc : (c != 0)
        · have hc0 : c = 0 := by simpa using hc
          subst hc0
          cases h1 : (uk == 1)
          · obtain ⟨⟨qk, qn, qs⟩, qc⟩ := q
            unfold vvV valV
            go_wp2
            go_roundw
            case rel => exact ⟨2, by omega, by go_num, HW6.out.alloc HW6.out.size _⟩
            case measure => simp [intOf]
          · cases h2 : (un == 1)
            · obtain ⟨⟨qk, qn, qs⟩, qc⟩ := q
              unfold vvV valV
              go_wp2
              go_roundw
              case rel => exact ⟨2, by omega, by go_num, HW6.out.alloc HW6.out.size _⟩
              case measure => simp [intOf]
            · cases h3 : (us.toList == [])
              · obtain ⟨⟨qk, qn, qs⟩, qc⟩ := q
                unfold vvV valV
                go_wp2
                go_roundw
                case rel => exact ⟨2, by omega, by go_num, HW6.out.alloc HW6.out.size _⟩
                case measure => simp [intOf]
              · have hq := HQ.out.2 rfl (eq_of_beq h1) (eq_of_beq h2)
                subst hq
                unfold vvV valV
                go_wp2
                go_roundw
                case rel => exact ⟨2, by omega, by go_num, HW6.out.alloc HW6.out.size _⟩
                case measure => simp [intOf]
        · have hq := HQ.out.1 (by simpa using hc)
          subst hq
          unfold vvV valV vz
          have hcc : (c == 0) = false := by simpa [bne] using hc
          go_wp2
          go_roundw
          case rel => exact ⟨2, by omega, by go_num, HW6.out.alloc HW6.out.size _⟩
          case measure => simp [intOf]
      · go_wp2
        go_ret
        exact ⟨rfl, HB5.out⟩
end Go.Proofs.Ytlmfofjinlkldaa
