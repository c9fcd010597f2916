/-
  Delta: the law's ops in memory; few.
-/
import Derived.Test.YtmcbpopeinabcaaDlG
namespace Go.Proofs.Ytmcbpopeinabcaa
open Go.RowKit

/-- A slice of values, with what it holds. -/
structure SV where
  a : Option Addr
  l : Nat
  c : Nat
  m : List Va
deriving Inhabited

def SV.v (s : SV) : Value := .slice s.a s.l s.c

structure SV.ok (W : World) (s : SV) : Prop where
  sl : SlV W s.a s.m
  len : s.m.length = s.l
  nil : s.a = none → s.c = 0
  bd : s.l ≤ maxLen

theorem SV.ok.below {W W' : World} {s : SV} (h : s.ok W) (hb : Below W.heap.size W W') : s.ok W' := ⟨h.sl.below hb, h.len, h.nil, h.bd⟩

/-- An op of the law. -/
structure OpD where
  t : Nat
  i : Nat
  s : SV
deriving Inhabited

/-- The ops of a slice whose first lies at a. -/
def SlO (W : World) (a : Option Addr) (l : List OpD) : Prop := l = [] ∨ ∃ b o, a = some ⟨b, o, none⟩ ∧ b < W.heap.size ∧ ∀ j x, l[j]? = some x →
  W.cell? ⟨b, o + j * 3, none⟩ = some (.int .u8 (x.t : Int)) ∧ W.cell? ⟨b, o + j * 3 + 1, none⟩ = some (.int .u8 (x.i : Int)) ∧ W.cell? ⟨b, o + j * 3 + 2, none⟩ = some x.s.v

structure OpsIn (W : World) (a : Option Addr) (l : List OpD) : Prop where
  sl : SlO W a l
  ok : ∀ x ∈ l, x.s.ok W ∧ x.t < 256 ∧ x.i < 256
  len : l.length ≤ maxLen

theorem OpsIn.below {W W' : World} {a : Option Addr} {l : List OpD} (h : OpsIn W a l) (hb : Below W.heap.size W W') : OpsIn W' a l := by
  refine ⟨?_, fun x hx => ⟨(h.ok x hx).1.below hb, (h.ok x hx).2⟩, h.len⟩
  rcases h.sl with h | ⟨b, o, e, hlt, hc⟩
  · exact Or.inl h
  · refine Or.inr ⟨b, o, e, Nat.lt_of_lt_of_le hlt hb.size, fun j c hj => ?_⟩
    have e := fun i => hb.cell (p := ⟨b, i, none⟩) hlt
    simp only [e]
    exact hc j c hj

theorem OpsIn.at {W : World} {a : Option Addr} {l : List OpD} (h : OpsIn W a l) {j : Nat} (hj : j < l.length) : ∃ b o x, a = some ⟨b, o, none⟩ ∧ b < W.heap.size ∧ l[j]? = some x ∧ (x.s.ok W ∧ x.t < 256 ∧ x.i < 256) ∧
    W.cell? ⟨b, o + j * 3, none⟩ = some (.int .u8 (x.t : Int)) ∧ W.cell? ⟨b, o + j * 3 + 1, none⟩ = some (.int .u8 (x.i : Int)) ∧ W.cell? ⟨b, o + j * 3 + 2, none⟩ = some x.s.v := by
  rcases h.sl with rfl | ⟨b, o, e, hlt, hc⟩
  · simp at hj
  · exact ⟨b, o, l[j], e, hlt, List.getElem?_eq_getElem hj, h.ok _ (List.getElem_mem hj), hc j _ (List.getElem?_eq_getElem hj)⟩

def FewP (l : List OpD) : Prop := l.length ≤ 60 ∧ ∀ x ∈ l, x.s.l ≤ 20

/-- What few answers. -/
def FewOut (l : List OpD) (w : World) (e : Ending) (w' : World) : Prop := ∃ b, e = .returned (.bool b) ∧ (b = true → FewP l) ∧ Below w.heap.size w w'

theorem FewOut.no {l : List OpD} {w w' : World} (h : Below w.heap.size w w') : FewOut l w (.returned (.bool false)) w' := ⟨_, rfl, fun h => (by cases h), h⟩

set_option maxRecDepth 100000 in
set_option maxHeartbeats 1000000 in
theorem few_walk {l : List OpD} {a : Option Addr} {n c : Nat} {w : World} (h : OpsIn w a l) (hl : l.length = n) :
    Calls Try.prog 18 #[.slice a n c] w (FewOut l w) := by
  have HH := dhid h
  have HL := dhid hl
  have hml : n ≤ 9223372036854775807 := by have := h.len; unfold maxLen at this; omega
  clear h hl
  by_cases h60 : n ≤ 60
  · have h60' : ¬ (60 : Int) < (n : Int) := by omega
    go_enter Try.func18, Try.ntmps18
    go_wp2
    go_loopw [12] (fun i wr => ∃ j : Nat, j ≤ n ∧ i = .int .i64 (j : Int) ∧ Hid (Below w.heap.size w wr ∧ ∀ k x, k < j → l[k]? = some x → x.s.l ≤ 20)) (fun i _ => n - (intOf i).toNat)
    case atStart => exact ⟨0, Nat.zero_le _, rfl, Below.refl _ _, fun k x hk => by omega⟩
    case round =>
      obtain ⟨j, hj, rfl, HB⟩ := hrel
      by_cases hlt : j < n
      · obtain ⟨b, o, x, rfl, hb, hx, ⟨hok, ht, hi⟩, c0, c1, c2⟩ := (HH.out.below HB.out.1).at (j := j) (by rw [HL.out]; exact hlt)
        obtain ⟨xt, xi, ⟨sa, sl, sc, sm⟩⟩ := x
        unfold SV.v at c2
        dsimp only at *
        have HX := dhid hx
        have HO := dhid hok
        have hsl : sl ≤ 9223372036854775807 := by have := hok.bd; unfold maxLen at this; dsimp only at this; omega
        clear hx hok
        by_cases h20 : sl ≤ 20
        · have h20' : ¬ (20 : Int) < (sl : Int) := by omega
          have HB2 : Hid (∀ o, Below w.heap.size w (wr.alloc o)) := fun o => HB.out.1.alloc HB.out.1.size o
          have HO2 : Hid (∀ o W, Below (wr.alloc o).heap.size (wr.alloc o) W → SlV W sa sm) := fun o W hW => (HO.out.sl.below (below_alloc wr o)).below hW
          go_wp2
          refine to_letter (F := fun W => Below w.heap.size w W ∧ SlV W sa sm) ⟨HB2.out _, HO2.out _ _ (Below.refl _ _)⟩ ?_
          rintro W2 ⟨B2, S2⟩
          have HB3 := dhid B2
          have HS3 := dhid S2
          clear B2 S2 HB2 HO2
          go_loopw [23] (fun i wr => ∃ k : Nat, k ≤ sl ∧ i = .int .i64 (k : Int) ∧ Hid (Below w.heap.size w wr ∧ SlV wr sa sm)) (fun i _ => sl - (intOf i).toNat)
          case atStart => exact ⟨0, Nat.zero_le _, rfl, HB3.out, HS3.out⟩
          case round =>
            obtain ⟨k, hk, rfl, HC⟩ := hrel
            by_cases hks : k < sl
            · obtain ⟨bb, oo, v, rfl, hbb, hv, d0, d1, d2⟩ := HC.out.2.at (j := k) (by have := HO.out.len; dsimp only at this; omega)
              have HB4 : Hid (∀ o, Below w.heap.size w (wr.alloc o)) := fun o => HC.out.1.alloc HC.out.1.size o
              have HS4 : Hid (∀ o, SlV (wr.alloc o) (some ⟨bb, oo, none⟩) sm) := fun o => HC.out.2.below (below_alloc wr o)
              clear hv HC HS3 HO
              by_cases hss : v.s.size ≤ 200
              · have hss' : ¬ (200 : Int) < (v.s.size : Int) := by omega
                go_wp2
                exact ⟨⟨k + 1, by omega, by go_num, HB4.out _, HS4.out _⟩, by simp [intOf]; omega⟩
              · have hss' : (200 : Int) < (v.s.size : Int) := by omega
                go_wp2
                go_ret
                exact FewOut.no (HB4.out _)
            · have hks' : k = sl := by omega
              subst hks'
              go_wp2
              refine ⟨⟨j + 1, by omega, by go_num, HC.out.1, fun i y hi hy => ?_⟩, by simp [intOf]; omega⟩
              by_cases hij : i < j
              · exact HB.out.2 i y hij hy
              · have : i = j := by omega
                subst this
                rw [HX.out] at hy
                cases hy
                exact h20
        · have h20' : (20 : Int) < (sl : Int) := by omega
          have HB2 : Hid (∀ o, Below w.heap.size w (wr.alloc o)) := fun o => HB.out.1.alloc HB.out.1.size o
          go_wp2
          go_ret
          exact FewOut.no (HB2.out _)
      · have hjn : j = n := by omega
        subst hjn
        go_wp2
        go_ret
        refine ⟨true, rfl, fun _ => ⟨by rw [HL.out]; exact h60, fun x hx => ?_⟩, HB.out.1⟩
        obtain ⟨i, hi, e⟩ := List.getElem_of_mem hx
        exact HB.out.2 i x (by rw [← HL.out]; exact hi) (by rw [List.getElem?_eq_getElem hi, e])
  · have h60' : (60 : Int) < (n : Int) := by omega
    go_enter Try.func18, Try.ntmps18
    go_wp2
    go_ret
    exact FewOut.no (Below.refl _ _)
end Go.Proofs.Ytmcbpopeinabcaa
