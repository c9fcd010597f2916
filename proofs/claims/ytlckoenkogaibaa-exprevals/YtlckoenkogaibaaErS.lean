/-
  ExprEvals: the walk.
-/
import Derived.Test.YtlckoenkogaibaaErE
import Derived.Test.YtlckoenkogaibaaEvO
namespace Go.Proofs.Ytlckoenkogaibaa
open Go.RowKit

theorem slg_one {W : World} {b : Nat} {x : NL} {fz : Nat × Nat} (h : W.heap[b]? = some (.cells (nC x).toArray 26 fz)) : Rw.SlG nC 7 W (some ⟨b, 0, none⟩) [x] := by
  refine Or.inr ⟨b, 0, rfl, (Array.getElem?_eq_some_iff.1 h).1, fun j k hj i u hu => ?_⟩
  rw [Nat.zero_add, cell_of_row _ _ _ _ _ _ h]
  have := Rw.flat_at nC_len [x] j k hj i u hu
  simpa [Rw.flat] using this

set_option maxRecDepth 100000 in
set_option maxHeartbeats 1000000 in
theorem exprEvals_walk (x : NL) {ra : Option Addr} {rs : List RowL} {rc : Nat} (w : World) (hx : ∀ n, InN n w x) (hR : RowsIn w ra rs) (hF : RowsFit rs)
    (hA0 : ∀ W, Calls Try.prog 5 #[] W fun e W' => e = .returned (.bool true) ∧ Below W.heap.size W W') :
    Calls Try.prog 3 #[nV x, .slice ra rs.length rc] w fun e W => e = .returned (.bool true) ∧ Below w.heap.size w W := by
  have HA := Rw.dh hA0
  have HX := Rw.dh hx
  have HR := Rw.dh hR
  have HF := Rw.dh hF
  clear hA0 hx hR hF
  unfold nV
  go_enter Try.func3, Try.ntmps3
  go_wp2_with fail
  refine (HA.out _).mono ?_
  rintro e w1 ⟨rfl, hb1⟩
  have p0 : w1.heap[w.heap.size]? = some (.cells (nC x).toArray 26 (0, 0)) := (hb1.block _ (by simp)).trans (Rw.heap_new w _)
  have HP0 := Rw.dh p0
  have HB1 := Rw.dh (below_on (Rw.below_alloc w _) hb1)
  obtain ⟨a0, a1, a2, a3, a4, a5, a6⟩ := ncells p0
  clear hb1 p0
  go_wp2_with fail
  have hL := long_walk (l := [x]) (a := some ⟨w1.heap.size, 0, none⟩) (c := 1) (ra := ra) (rs := rs) (rc := rc) (w := w1.alloc (.cells (nC x).toArray 26)) (slg_one (Rw.heap_new _ _)) (fun k hk => by
    simp only [List.mem_cons, List.not_mem_nil, or_false] at hk
    subst hk
    exact (HX.out 40).on (HB1.out.alloc HB1.out.size _)) (by show 1 ≤ 1599289640401; omega) (HR.out.on (HB1.out.alloc HB1.out.size _)) HF.out.1
  refine hL.mono ?_
  clear hL
  rintro e w2 ⟨B, rfl, hB, hb2⟩
  have HB2 := Rw.dh (below_on HB1.out (below_on (Rw.below_alloc w1 _) hb2))
  have hp0 : w2.heap[w.heap.size]? = some (.cells (nC x).toArray 26 (0, 0)) := ((below_on (Rw.below_alloc w1 _) hb2).block _ (Array.getElem?_eq_some_iff.1 HP0.out).1).trans HP0.out
  have HB := Rw.dh hB
  clear hb2 hB HP0 HB1 a0 a1 a2 a3 a4 a5 a6
  have HP0 := Rw.dh hp0
  obtain ⟨a0, a1, a2, a3, a4, a5, a6⟩ := ncells hp0
  clear hp0
  cases B with
  | true =>
    go_wp2
    go_ret
    exact ⟨rfl, HB2.out⟩
  | false =>
    have hdx : deepN 40 x = false := (HB.out rfl).1 x (by simp)
    have hE := evalF_walk (n := 40) (by decide) (rc := rc) HF.out x ((HX.out 40).on HB2.out) hdx (HR.out.on HB2.out)
    have HN : Hid (∀ W, Below w.heap.size w W → Calls Try.prog 9 #[nV x] W fun e W' => ∃ y, e = .returned (nV y) ∧ Hid (evN 40 rs y = evN 40 rs x ∧ deepN 40 y = false ∧ InN 40 W' y) ∧ Hid (Below W.heap.size W W')) := fun W hb => (nplain_walk 40 x W ((HX.out 40).on hb) hdx).mono (by
      rintro e W' ⟨y, rfl, hL, hI, hb'⟩
      exact ⟨y, rfl, ⟨(hL.ev rs).symm, hL.deep.symm.trans hdx, (hI 40).1⟩, hb'⟩)
    have HV := Rw.dh (fun (y : NL) (W : World) (hI : InN 40 W y) (hd : deepN 40 y = false) (hb : Below w.heap.size w W) => reval_walk (rc := rc) HF.out 40 y W hI hd (HR.out.on hb))
    clear HX HR HF HB hdx HA
    generalize evN 40 rs x = r at *
    unfold nV at hE
    go_wp2_with fail
    refine hE.mono ?_
    clear hE
    rintro e w3 ⟨rfl, hb3⟩
    have HB3 := Rw.dh ((below_on HB2.out hb3).alloc (below_on HB2.out hb3).size (.cells #[.int .i64 r.1.k, .int .i64 r.1.n, .string r.1.s] 23))
    have hp0 := (Below.heap_alloc w3 (.cells #[.int .i64 r.1.k, .int .i64 r.1.n, .string r.1.s] 23) w.heap.size (Nat.lt_of_lt_of_le (Array.getElem?_eq_some_iff.1 HP0.out).1 hb3.size)).trans ((hb3.block _ (Array.getElem?_eq_some_iff.1 HP0.out).1).trans HP0.out)
    have HV3 := Rw.dh (Rw.heap_new w3 (.cells #[.int .i64 r.1.k, .int .i64 r.1.n, .string r.1.s] 23))
    clear hb3 HP0 HB2 a0 a1 a2 a3 a4 a5 a6
    obtain ⟨a0, a1, a2, a3, a4, a5, a6⟩ := ncells hp0
    clear hp0
    obtain ⟨⟨vk, vn, vs⟩, c⟩ := r
    unfold vvV valV
    dsimp only at *
    unfold nV at HN
    go_wp2_with fail
    refine (HN.out _ HB3.out).mono ?_
    rintro e w4 ⟨y, rfl, HY, HB4⟩
    have HV4 := Rw.dh ((HB4.out.block _ (Array.getElem?_eq_some_iff.1 HV3.out).1).trans HV3.out)
    have hE := HV.out y w4 HY.out.2.2 HY.out.2.1 (below_on HB3.out HB4.out)
    rw [HY.out.1] at hE
    unfold nV at hE
    clear HV HN HY HV3 a0 a1 a2 a3 a4 a5 a6
    have HB5 := Rw.dh (below_on HB3.out HB4.out)
    clear HB3 HB4
    go_wp2_with fail
    refine hE.mono ?_
    clear hE
    rintro e w5 ⟨rfl, hb5⟩
    have hv5 := (hb5.block _ (Array.getElem?_eq_some_iff.1 HV4.out).1).trans HV4.out
    have HB6 := Rw.dh (below_on HB5.out hb5)
    have hl5 := (Array.getElem?_eq_some_iff.1 hv5).1
    have hv6 := (Below.heap_alloc w5 (.cells #[.int .i64 vk, .int .i64 vn, .string vs] 23) _ hl5).trans hv5
    obtain ⟨a0, a1, a2, -, -, -⟩ := cells3 hv6
    clear hb5 HV4 HB5 hv5 hv6 hl5
    unfold vvV valV
    go_wp2
    go_ret
    exact ⟨by simp, HB6.out.alloc HB6.out.size _⟩
end Go.Proofs.Ytlckoenkogaibaa
