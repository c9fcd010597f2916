/-
  Delta: changes as an argument; great of the law.
-/
import Derived.Deep.RegionHeldLaw
import Derived.Test.YtmcbpopeinabcaaDlR
import Derived.Test.YtmcbpopeinabcaaDlS
namespace Go.Proofs.Ytmcbpopeinabcaa
open Go.RowKit Go.Deep

/-- What the cells say, however long. -/
structure MeansW (W : World) (r : RC) (c : Chg) : Prop where
  t : r.t = c.t
  id : r.id = c.id
  ol : c.o.length = r.ol
  nl : c.n.length = r.nl
  ob : r.ol ≤ maxLen
  nb : r.nl ≤ maxLen
  o : SlV W r.oa c.o
  n : SlV W r.na c.n
  oc : r.oa = none → r.oc = 0
  nc : r.na = none → r.nc = 0
  tb : r.t.size ≤ maxLen
  ib : (Lit.int .i64 r.id).wf = true

theorem MeansW.below {W W' : World} {r : RC} {c : Chg} (h : MeansW W r c) (hb : Below W.heap.size W W') : MeansW W' r c := ⟨h.t, h.id, h.ol, h.nl, h.ob, h.nb, h.o.below hb, h.n.below hb, h.oc, h.nc, h.tb, h.ib⟩

structure ChgsIn (W : World) (a : Option Addr) (l : List PC) : Prop where
  sl : SlC W a l
  ok : ∀ x ∈ l, MeansW W x.1 x.2
  len : l.length ≤ maxLen

theorem ChgsIn.below {W W' : World} {a : Option Addr} {l : List PC} (h : ChgsIn W a l) (hb : Below W.heap.size W W') : ChgsIn W' a l := ⟨h.sl.below hb, fun x hx => (h.ok x hx).below hb, h.len⟩

def SmallC (x : PC) : Prop := x.1.t.size ≤ 200 ∧ x.1.ol ≤ 20 ∧ x.1.nl ≤ 20

def GreatP (l : List PC) : Prop := l.length ≤ 80 ∧ ∀ x ∈ l, SmallC x

theorem ChgsIn.means {W : World} {a : Option Addr} {l : List PC} (h : ChgsIn W a l) (hg : GreatP l) : AllM W l := fun x hx => by
  have m := h.ok x hx
  obtain ⟨h1, h2, h3⟩ := hg.2 x hx
  exact ⟨m.t, m.id, m.ol, m.nl, by omega, by omega, m.o, m.n, m.oc, m.nc, by omega, m.ib⟩

/-- What great answers. -/
def GreatOut (l : List PC) (w : World) (e : Ending) (w' : World) : Prop := ∃ b, e = .returned (.bool b) ∧ (b = false → GreatP l) ∧ Below w.heap.size w w'

theorem GreatOut.yes {l : List PC} {w w' : World} (h : Below w.heap.size w w') : GreatOut l w (.returned (.bool true)) w' := ⟨_, rfl, fun h => (by cases h), h⟩

theorem own_newV {W : World} {base q : Nat} (hq : W.heap[q]? = some (.cells #[] 55 (0, 0))) (hw : base ≤ q) : W.ownsRow base 55 3 (.slice (some ⟨q, 0, none⟩) 0 0) 0 [] :=
  ⟨by simp, Or.inr ⟨q, 0, #[], rfl, hw, hq, Nat.le_refl _, by unfold maxLen; omega, by simp, by simp⟩⟩

set_option maxRecDepth 100000 in
set_option maxHeartbeats 1000000 in
theorem great_walk {l : List PC} {a : Option Addr} {n c : Nat} {w : World} (h : ChgsIn w a l) (hl : l.length = n) :
    Calls Try.prog 9 #[.slice a n c] w (GreatOut l w) := by
  have HH := dhid h
  have HL := dhid hl
  have hml : n ≤ 9223372036854775807 := by have := h.len; unfold maxLen at this; omega
  clear h hl
  by_cases h80 : n ≤ 80
  · have h80' : ¬ (80 : Int) < (n : Int) := by omega
    go_enter Try.func9, Try.ntmps9
    go_wp2
    go_loopw [12] (fun i wr => ∃ j : Nat, j ≤ n ∧ i = .int .i64 (j : Int) ∧ Hid (Below w.heap.size w wr ∧ ∀ k x, k < j → l[k]? = some x → SmallC x)) (fun i _ => n - (intOf i).toNat)
    case atStart => exact ⟨0, Nat.zero_le _, rfl, Below.refl _ _, fun k x hk => by omega⟩
    case round =>
      obtain ⟨j, hj, rfl, HB⟩ := hrel
      by_cases hlt : j < n
      · obtain ⟨b, o, x, rfl, hb, hx, c0, c1, c2, c3⟩ := (HH.out.below HB.out.1).sl.at (j := j) (by rw [HL.out]; exact hlt)
        have HO := dhid ((HH.out.below HB.out.1).ok x (List.mem_of_getElem? hx))
        obtain ⟨⟨xt, xid, oa, ol, oc, na, nl, nc⟩, ⟨yt, yid, yo, yn⟩⟩ := x
        dsimp only at *
        have HX := dhid hx
        have ho1 : ol ≤ 9223372036854775807 := by have := HO.out.ob; unfold maxLen at this; dsimp only at this; omega
        have ho2 : nl ≤ 9223372036854775807 := by have := HO.out.nb; unfold maxLen at this; dsimp only at this; omega
        have ho3 : xt.size ≤ 9223372036854775807 := by have := HO.out.tb; unfold maxLen at this; dsimp only at this; omega
        clear hx
        have HB2 : Hid (∀ o, Below w.heap.size w (wr.alloc o)) := fun o => HB.out.1.alloc HB.out.1.size o
        by_cases g1 : xt.size ≤ 200
        · have g1' : ¬ (200 : Int) < (xt.size : Int) := by omega
          by_cases g2 : ol ≤ 20
          · have g2' : ¬ (20 : Int) < (ol : Int) := by omega
            by_cases g3 : nl ≤ 20
            · have g3' : ¬ (20 : Int) < (nl : Int) := by omega
              go_wp2
              refine to_letter (F := fun W => Below w.heap.size w W ∧ Box4 W wr.heap.size (.string xt) (.int .i64 xid) (.slice oa ol oc) (.slice na nl nc) ∧ SlV W oa yo ∧ SlV W na yn) ⟨HB2.out _, go_heap_new _ _, HO.out.o.below (below_alloc _ _), HO.out.n.below (below_alloc _ _)⟩ ?_
              rintro U ⟨B2, C2, S2, T2⟩
              have HB3 := dhid B2
              obtain ⟨-, -, x2, x3, -, -, -, -, xl⟩ := C2.facts
              have KS : Hid (∀ W, Below U.heap.size U W → W.cell? ⟨wr.heap.size, 2, none⟩ = some (.slice oa ol oc) ∧ W.cell? ⟨wr.heap.size, 3, none⟩ = some (.slice na nl nc)) := fun W hW => by
                rw [hW.cell (p := ⟨wr.heap.size, 2, none⟩) xl, hW.cell (p := ⟨wr.heap.size, 3, none⟩) xl]; exact ⟨x2, x3⟩
              have HS1 : Hid (∀ W, Below U.heap.size U W → Src W oa ol oc (vcs yo)) := fun W hW => (S2.below hW).src HO.out.ol HO.out.oc
              have HS2 : Hid (∀ W, Below U.heap.size U W → Src W na nl nc (vcs yn)) := fun W hW => (T2.below hW).src HO.out.nl HO.out.nc
              have HV1 : Hid ((vcs yo).length = ol * 3) := by show _ = _; rw [vcs_length, HO.out.ol]
              have HV2 : Hid ((vcs yn).length = nl * 3) := by show _ = _; rw [vcs_length, HO.out.nl]
              have hyl : (yo ++ yn).length = ol + nl := by rw [List.length_append, HO.out.ol, HO.out.nl]
              have HYL := dhid hyl
              clear B2 C2 S2 T2 x2 x3 xl HO hyl c0 c1 c2 c3
              go_region_held_law (fun w' => w'.cell? ⟨wr.heap.size, 2, none⟩ = some (.slice oa ol oc) ∧ w'.cell? ⟨wr.heap.size, 3, none⟩ = some (.slice na nl nc)) (first | assumption | exact KS.out _ (by repeat (first | exact Below.refl _ _ | refine Below.drew ?_ | refine Below.alloc ?_ (by simp) _)))
                (first
                  | (refine step_appS Try.underlying25 infoVal rfl (by decide) (by decide) rfl (.tmp 32) (.tmp 34) rfl U.heap.size ?_ (.slice (some ⟨U.heap.size, 0, none⟩) 0 0) 0 [] ?_ (own_newV (q := U.heap.size) ?_ (Nat.le_refl _)) _ ol _ (vcs yo) ?_ (HS1.out _ ?_) HV1.out vcs_one (by omega) ?_
                     · first | omega | (simp; omega) | (simp; done)
                     · first | (simp [Act.eval]; done) | (simp [Act.eval, Act.put]; done)
                     · first | exact go_heap_new _ _
                     · first | (simp [Act.eval]; done) | (simp [Act.eval, Act.put]; done)
                     · repeat (first | exact Below.refl _ _ | refine Below.drew ?_ | refine Below.alloc ?_ (by simp) _)
                     intro v5 W5 O5 G5
                     have B5 : Below U.heap.size U W5 := Below.grown (by repeat (first | exact Below.refl _ _ | refine Below.drew ?_ | refine Below.alloc ?_ (by simp) _)) G5 (by simp) fun k hk => by cases hk; exact Nat.le_refl _
                     have HB5 := dhid B5
                     have HO5 := dhid O5
                     have KS5 := KS.out W5 B5
                     have hz5 : U.heap.size ≤ W5.heap.size := B5.size
                     clear O5 G5 B5)
                  | (refine step_appS Try.underlying25 infoVal rfl (by decide) (by decide) rfl (.tmp 35) (.tmp 37) rfl U.heap.size hz5 v5 (0 + ol) ([] ++ vcs yo) ?_ HO5.out _ nl _ (vcs yn) ?_ (HS2.out _ HB5.out) HV2.out vcs_one (by omega) ?_
                     · first | (simp [Act.eval]; done) | (simp [Act.eval, Act.put]; done)
                     · first | (simp [Act.eval]; done) | (simp [Act.eval, Act.put]; done)
                     intro v7 W7 O7 G7
                     have B7 : Below U.heap.size U W7 := HB5.out.grown G7 HB5.out.size fun k hk => (HO5.out.lt k hk).1
                     have KS7 := KS.out W7 B7
                     rw [show [] ++ vcs yo ++ vcs yn = vcs (yo ++ yn) from (by simp [vcs]), Nat.zero_add] at O7
                     obtain ⟨a7, k7, e7⟩ := owns_slice O7
                     subst e7
                     have HS7 := dhid (owns_sl O7).2.1
                     have HB7 := dhid (below_on HB3.out B7 HB3.out.size)
                     clear O7 G7 B7 HO5 HB5 KS5))
              clear KS7
              go_simp
              go_wp2
              refine to_letter (F := fun W => Below w.heap.size w W ∧ SlV W a7 (yo ++ yn)) ⟨HB7.out, HS7.out⟩ ?_
              rintro W8 ⟨B8, S8⟩
              have HB8 := dhid B8
              have HS8 := dhid S8
              clear B8 S8 HB7 HS7 HB3 KS HS1 HS2 HB2
              go_loopw [40] (fun i wr => ∃ k : Nat, k ≤ ol + nl ∧ i = .int .i64 (k : Int) ∧ Hid (Below w.heap.size w wr ∧ SlV wr a7 (yo ++ yn))) (fun i _ => ol + nl - (intOf i).toNat)
              case atStart => exact ⟨0, Nat.zero_le _, rfl, HB8.out, HS8.out⟩
              case round =>
                obtain ⟨k, hk, rfl, HC⟩ := hrel
                by_cases hks : k < ol + nl
                · obtain ⟨bb, oo, v, rfl, hbb, hv, d0, d1, d2⟩ := HC.out.2.at (j := k) (by rw [HYL.out]; exact hks)
                  have HB4 : Hid (∀ o, Below w.heap.size w (wr.alloc o)) := fun o => HC.out.1.alloc HC.out.1.size o
                  have HS4 : Hid (∀ o, SlV (wr.alloc o) (some ⟨bb, oo, none⟩) (yo ++ yn)) := fun o => HC.out.2.below (below_alloc wr o)
                  have hks' : (k : Int) < (ol : Int) + (nl : Int) := by omega
                  clear hv HC HS8
                  by_cases hss : v.s.size ≤ 200
                  · have hss' : ¬ (200 : Int) < (v.s.size : Int) := by omega
                    go_wp2
                    exact ⟨⟨k + 1, by omega, by go_num, HB4.out _, HS4.out _⟩, by simp [intOf]; omega⟩
                  · have hss' : (200 : Int) < (v.s.size : Int) := by omega
                    go_wp2
                    go_ret
                    exact GreatOut.yes (HB4.out _)
                · have hks' : k = ol + nl := by omega
                  subst hks'
                  go_wp2
                  refine ⟨⟨j + 1, by omega, by go_num, HC.out.1, fun i y hi hy => ?_⟩, by simp [intOf]; omega⟩
                  by_cases hij : i < j
                  · exact HB.out.2 i y hij hy
                  · have : i = j := by omega
                    subst this
                    rw [HX.out] at hy
                    cases hy
                    exact ⟨g1, g2, g3⟩
            · have g3' : (20 : Int) < (nl : Int) := by omega
              go_wp2
              go_ret
              exact GreatOut.yes (HB2.out _)
          · have g2' : (20 : Int) < (ol : Int) := by omega
            go_wp2
            go_ret
            exact GreatOut.yes (HB2.out _)
        · have g1' : (200 : Int) < (xt.size : Int) := by omega
          go_wp2
          go_ret
          exact GreatOut.yes (HB2.out _)
      · have hjn : j = n := by omega
        subst hjn
        go_wp2
        go_ret
        refine ⟨false, rfl, fun _ => ⟨by rw [HL.out]; exact h80, fun x hx => ?_⟩, HB.out.1⟩
        obtain ⟨i, hi, e⟩ := List.getElem_of_mem hx
        exact HB.out.2 i x (by rw [← HL.out]; exact hi) (by rw [List.getElem?_eq_getElem hi, e])
  · have h80' : (80 : Int) < (n : Int) := by omega
    go_enter Try.func9, Try.ntmps9
    go_wp2
    go_ret
    exact GreatOut.yes (Below.refl _ _)
end Go.Proofs.Ytmcbpopeinabcaa
