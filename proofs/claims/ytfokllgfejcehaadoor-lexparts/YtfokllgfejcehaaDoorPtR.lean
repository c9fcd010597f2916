/-
  The last region of LexParts, whose order is drawn: its head by an invariant over what is done, its tail one behind the other. Printed by gen_ptr.py.
-/
import Derived.Test.YtfokllgfejcehaaDoorHdI
import Derived.Test.YtfokllgfejcehaaDoorSmR
import Derived.Test.YtfokllgfejcehaaDoorLxM
namespace Go.Proofs.YtfokllgfejcehaaDoor
open Go Go.RowKit Rw

def ptS : List Nat := [72, 73, 74, 75, 76, 77, 78, 79, 80, 81, 82, 83]

section
variable {Q : Exit → Act → World → Prop} {K : Act → World → Prop}
theorem pop_field {o : Oper} {a : Act} {w : World} {s G : Nat} (ho : o.op = .fieldAddr 26 (.tmp s) 0) (hs : a.eval (.tmp s) = .pointer (some ⟨G, 0, none⟩)) (hK : K (a.put o.dst (.pointer (some ⟨G, 0, none⟩))) w) : Oper.wp Tryd.prog o a w K Q := by
  have hs' : a.tmps[s]?.getD undef = .pointer (some ⟨G, 0, none⟩) := by simpa [Act.eval] using hs
  unfold Oper.wp
  simp [execOp, ho, go_sem, hs']
  exact hK
theorem pop_load {o : Oper} {a : Act} {w : World} {s G : Nat} (ho : o.op = .load 24 (.tmp s)) (hs : a.eval (.tmp s) = .pointer (some ⟨G, 0, none⟩)) (hc : w.cell? ⟨G, 0, none⟩ = some (.int .i64 0)) (hK : K (a.put o.dst (.int .i64 0)) w) : Oper.wp Tryd.prog o a w K Q := by
  have hs' : a.tmps[s]?.getD undef = .pointer (some ⟨G, 0, none⟩) := by simpa [Act.eval] using hs
  unfold Oper.wp
  simp [execOp, ho, go_sem, hs', hc]
  exact hK
theorem pop_eql {o : Oper} {a : Act} {w : World} {s : Nat} (ho : o.op = .binOp .eql 24 (.tmp s) (.const (.int .i64 0)) 24) (hs : a.eval (.tmp s) = .int .i64 0) (hK : K (a.put o.dst (.bool true)) w) : Oper.wp Tryd.prog o a w K Q := by
  have hs' : a.tmps[s]?.getD undef = .int .i64 0 := by simpa [Act.eval] using hs
  unfold Oper.wp
  simp [execOp, ho, go_sem, hs']
  exact hK
theorem pop_len {o : Oper} {a : Act} {w : World} {s : Nat} {x : Option Addr} {n c : Nat} (ho : o.op = .call { callee := .builtin .len, args := #[.tmp s], argTypes := #[23] }) (hs : a.eval (.tmp s) = .slice x n c) (hK : K (a.put o.dst (.int .i64 n)) w) : Oper.wp Tryd.prog o a w K Q := by
  have hs' : a.tmps[s]?.getD undef = .slice x n c := by simpa [Act.eval] using hs
  unfold Oper.wp
  simp [execOp, ho, resolve, invoke, builtin, go_sem, hs']
  exact hK
theorem pop_sub {o : Oper} {a : Act} {w : World} {s n : Nat} (ho : o.op = .binOp .sub 3 (.tmp s) (.const (.int .i64 1)) 3) (hs : a.eval (.tmp s) = .int .i64 n) (h1 : 1 ≤ n) (h2 : n ≤ 1000000) (hK : K (a.put o.dst (.int .i64 ((n : Int) - 1))) w) : Oper.wp Tryd.prog o a w K Q := by
  have hs' : a.tmps[s]?.getD undef = .int .i64 n := by simpa [Act.eval] using hs
  have hw : IntKind.i64.wrap ((n : Int) - 1) = (n : Int) - 1 := by
    simp only [IntKind.wrap, IntKind.bits, IntKind.signed]
    simp
    omega
  unfold Oper.wp
  simp [execOp, ho, go_sem, hs', hw]
  exact hK
theorem pop_slice {o : Oper} {a : Act} {w : World} {s t g n c : Nat} (ho : o.op = .slice 23 (.tmp s) none (some (.tmp t)) none) (hs : a.eval (.tmp s) = .slice (some ⟨g, 0, none⟩) n c) (ht : a.eval (.tmp t) = .int .i64 ((n : Int) - 1)) (h1 : 1 ≤ n) (h2 : n ≤ c) (hK : K (a.put o.dst (.slice (some ⟨g, 0, none⟩) (n - 1) c)) w) : Oper.wp Tryd.prog o a w K Q := by
  have hs' : a.tmps[s]?.getD undef = .slice (some ⟨g, 0, none⟩) n c := by simpa [Act.eval] using hs
  have ht' : a.tmps[t]?.getD undef = .int .i64 ((n : Int) - 1) := by simpa [Act.eval] using ht
  have h3 : (1 : Int) ≤ (n : Int) := by omega
  have h4 : (n : Int) - 1 ≤ c := by omega
  have h5 : ((n : Int) - 1).toNat = n - 1 := by omega
  unfold Oper.wp
  simp [execOp, ho, go_sem, hs', ht', h3, h4, h5]
  exact hK
theorem pop_call {o : Oper} {a : Act} {w : World} {s : Nat} {v : Value} (ho : o.op = .call { callee := .value (.func 11), args := #[.tmp s], argTypes := #[23] }) (hs : a.eval (.tmp s) = v) {R : Value → World → Prop} (hc : Calls Tryd.prog 11 #[v] w fun e w' => ∃ u, e = .returned u ∧ R u w') (hK : ∀ u w', R u w' → K (a.put o.dst u) w') : Oper.wp Tryd.prog o a w K Q := by
  have hs' : a.tmps[s]?.getD undef = v := by simpa [Act.eval] using hs
  unfold Oper.wp
  simp [execOp, ho, resolve, invoke, go_sem, hs']
  refine hc.mono ?_
  rintro e w' ⟨u, rfl, hr⟩
  exact hK u w' hr
end

structure PtI (w : World) (a0 : Act) (G : Nat) (ca : Option Addr) (nC cc ga nA ac : Nat) (bv : Value) (C : List Tk) (d : Nat → Bool) (a : Act) (W : World) : Prop where
  fr : FrmS ptS a0 a
  bel : Below w.heap.size w W
  e0 : d 0 = true → a.eval (.tmp 72) = .pointer (some ⟨G, 0, none⟩)
  e1 : d 1 = true → a.eval (.tmp 73) = .int .i64 0
  e2 : d 2 = true → a.eval (.tmp 74) = .bool true
  e3 : d 3 = true → a.eval (.tmp 75) = .bool true
  e4 : d 4 = true → a.eval (.tmp 76) = .slice ca nC cc
  e5 : d 5 = true → ∃ va vc, a.eval (.tmp 77) = .slice va nC vc ∧ W.ownsRow w.heap.size 46 4 (.slice va nC vc) nC (flat tkC C)
  e6 : d 6 = true → a.eval (.tmp 78) = .slice (some ⟨ga, 0, none⟩) nA ac
  e7 : d 7 = true → a.eval (.tmp 79) = .slice (some ⟨ga, 0, none⟩) nA ac
  e8 : d 8 = true → a.eval (.tmp 80) = .int .i64 nA
  e9 : d 9 = true → a.eval (.tmp 81) = .int .i64 ((nA : Int) - 1)
  e10 : d 10 = true → a.eval (.tmp 82) = .slice (some ⟨ga, 0, none⟩) (nA - 1) ac
  e11 : d 11 = true → a.eval (.tmp 83) = bv

theorem pt0 {w : World} {a0 : Act} {G : Nat} {ca : Option Addr} {nC cc ga nA ac : Nat} {bv : Value} {C : List Tk} {d : Nat → Bool} {a : Act} {W : World} (h : PtI w a0 G ca nC cc ga nA ac bv C d a W) (hs : 88 ≤ a0.tmps.size) {v : Value} (hv : v = .pointer (some ⟨G, 0, none⟩)) : PtI w a0 G ca nC cc ga nA ac bv C (fun j => j == 0 || d j) (a.put (some 72) v) W :=
  ⟨h.fr.put (by decide) _, h.bel, fun _ => (put_get _ _ _ (by have := h.fr.size; omega)).trans hv, fun q => (by rw [put_ne _ _ _ _ (by decide)]; exact h.e1 (by simpa using q)), fun q => (by rw [put_ne _ _ _ _ (by decide)]; exact h.e2 (by simpa using q)), fun q => (by rw [put_ne _ _ _ _ (by decide)]; exact h.e3 (by simpa using q)), fun q => (by rw [put_ne _ _ _ _ (by decide)]; exact h.e4 (by simpa using q)), fun q => (by obtain ⟨va, vc, g1, g2⟩ := h.e5 (by simpa using q); exact ⟨va, vc, by rw [put_ne _ _ _ _ (by decide)]; exact g1, g2⟩), fun q => (by rw [put_ne _ _ _ _ (by decide)]; exact h.e6 (by simpa using q)), fun q => (by rw [put_ne _ _ _ _ (by decide)]; exact h.e7 (by simpa using q)), fun q => (by rw [put_ne _ _ _ _ (by decide)]; exact h.e8 (by simpa using q)), fun q => (by rw [put_ne _ _ _ _ (by decide)]; exact h.e9 (by simpa using q)), fun q => (by rw [put_ne _ _ _ _ (by decide)]; exact h.e10 (by simpa using q)), fun q => (by rw [put_ne _ _ _ _ (by decide)]; exact h.e11 (by simpa using q))⟩

theorem pt1 {w : World} {a0 : Act} {G : Nat} {ca : Option Addr} {nC cc ga nA ac : Nat} {bv : Value} {C : List Tk} {d : Nat → Bool} {a : Act} {W : World} (h : PtI w a0 G ca nC cc ga nA ac bv C d a W) (hs : 88 ≤ a0.tmps.size) {v : Value} (hv : v = .int .i64 0) : PtI w a0 G ca nC cc ga nA ac bv C (fun j => j == 1 || d j) (a.put (some 73) v) W :=
  ⟨h.fr.put (by decide) _, h.bel, fun q => (by rw [put_ne _ _ _ _ (by decide)]; exact h.e0 (by simpa using q)), fun _ => (put_get _ _ _ (by have := h.fr.size; omega)).trans hv, fun q => (by rw [put_ne _ _ _ _ (by decide)]; exact h.e2 (by simpa using q)), fun q => (by rw [put_ne _ _ _ _ (by decide)]; exact h.e3 (by simpa using q)), fun q => (by rw [put_ne _ _ _ _ (by decide)]; exact h.e4 (by simpa using q)), fun q => (by obtain ⟨va, vc, g1, g2⟩ := h.e5 (by simpa using q); exact ⟨va, vc, by rw [put_ne _ _ _ _ (by decide)]; exact g1, g2⟩), fun q => (by rw [put_ne _ _ _ _ (by decide)]; exact h.e6 (by simpa using q)), fun q => (by rw [put_ne _ _ _ _ (by decide)]; exact h.e7 (by simpa using q)), fun q => (by rw [put_ne _ _ _ _ (by decide)]; exact h.e8 (by simpa using q)), fun q => (by rw [put_ne _ _ _ _ (by decide)]; exact h.e9 (by simpa using q)), fun q => (by rw [put_ne _ _ _ _ (by decide)]; exact h.e10 (by simpa using q)), fun q => (by rw [put_ne _ _ _ _ (by decide)]; exact h.e11 (by simpa using q))⟩

theorem pt2 {w : World} {a0 : Act} {G : Nat} {ca : Option Addr} {nC cc ga nA ac : Nat} {bv : Value} {C : List Tk} {d : Nat → Bool} {a : Act} {W : World} (h : PtI w a0 G ca nC cc ga nA ac bv C d a W) (hs : 88 ≤ a0.tmps.size) {v : Value} (hv : v = .bool true) : PtI w a0 G ca nC cc ga nA ac bv C (fun j => j == 2 || d j) (a.put (some 74) v) W :=
  ⟨h.fr.put (by decide) _, h.bel, fun q => (by rw [put_ne _ _ _ _ (by decide)]; exact h.e0 (by simpa using q)), fun q => (by rw [put_ne _ _ _ _ (by decide)]; exact h.e1 (by simpa using q)), fun _ => (put_get _ _ _ (by have := h.fr.size; omega)).trans hv, fun q => (by rw [put_ne _ _ _ _ (by decide)]; exact h.e3 (by simpa using q)), fun q => (by rw [put_ne _ _ _ _ (by decide)]; exact h.e4 (by simpa using q)), fun q => (by obtain ⟨va, vc, g1, g2⟩ := h.e5 (by simpa using q); exact ⟨va, vc, by rw [put_ne _ _ _ _ (by decide)]; exact g1, g2⟩), fun q => (by rw [put_ne _ _ _ _ (by decide)]; exact h.e6 (by simpa using q)), fun q => (by rw [put_ne _ _ _ _ (by decide)]; exact h.e7 (by simpa using q)), fun q => (by rw [put_ne _ _ _ _ (by decide)]; exact h.e8 (by simpa using q)), fun q => (by rw [put_ne _ _ _ _ (by decide)]; exact h.e9 (by simpa using q)), fun q => (by rw [put_ne _ _ _ _ (by decide)]; exact h.e10 (by simpa using q)), fun q => (by rw [put_ne _ _ _ _ (by decide)]; exact h.e11 (by simpa using q))⟩

theorem pt3 {w : World} {a0 : Act} {G : Nat} {ca : Option Addr} {nC cc ga nA ac : Nat} {bv : Value} {C : List Tk} {d : Nat → Bool} {a : Act} {W : World} (h : PtI w a0 G ca nC cc ga nA ac bv C d a W) (hs : 88 ≤ a0.tmps.size) {v : Value} (hv : v = .bool true) : PtI w a0 G ca nC cc ga nA ac bv C (fun j => j == 3 || d j) (a.put (some 75) v) W :=
  ⟨h.fr.put (by decide) _, h.bel, fun q => (by rw [put_ne _ _ _ _ (by decide)]; exact h.e0 (by simpa using q)), fun q => (by rw [put_ne _ _ _ _ (by decide)]; exact h.e1 (by simpa using q)), fun q => (by rw [put_ne _ _ _ _ (by decide)]; exact h.e2 (by simpa using q)), fun _ => (put_get _ _ _ (by have := h.fr.size; omega)).trans hv, fun q => (by rw [put_ne _ _ _ _ (by decide)]; exact h.e4 (by simpa using q)), fun q => (by obtain ⟨va, vc, g1, g2⟩ := h.e5 (by simpa using q); exact ⟨va, vc, by rw [put_ne _ _ _ _ (by decide)]; exact g1, g2⟩), fun q => (by rw [put_ne _ _ _ _ (by decide)]; exact h.e6 (by simpa using q)), fun q => (by rw [put_ne _ _ _ _ (by decide)]; exact h.e7 (by simpa using q)), fun q => (by rw [put_ne _ _ _ _ (by decide)]; exact h.e8 (by simpa using q)), fun q => (by rw [put_ne _ _ _ _ (by decide)]; exact h.e9 (by simpa using q)), fun q => (by rw [put_ne _ _ _ _ (by decide)]; exact h.e10 (by simpa using q)), fun q => (by rw [put_ne _ _ _ _ (by decide)]; exact h.e11 (by simpa using q))⟩

theorem pt4 {w : World} {a0 : Act} {G : Nat} {ca : Option Addr} {nC cc ga nA ac : Nat} {bv : Value} {C : List Tk} {d : Nat → Bool} {a : Act} {W : World} (h : PtI w a0 G ca nC cc ga nA ac bv C d a W) (hs : 88 ≤ a0.tmps.size) {v : Value} (hv : v = .slice ca nC cc) : PtI w a0 G ca nC cc ga nA ac bv C (fun j => j == 4 || d j) (a.put (some 76) v) W :=
  ⟨h.fr.put (by decide) _, h.bel, fun q => (by rw [put_ne _ _ _ _ (by decide)]; exact h.e0 (by simpa using q)), fun q => (by rw [put_ne _ _ _ _ (by decide)]; exact h.e1 (by simpa using q)), fun q => (by rw [put_ne _ _ _ _ (by decide)]; exact h.e2 (by simpa using q)), fun q => (by rw [put_ne _ _ _ _ (by decide)]; exact h.e3 (by simpa using q)), fun _ => (put_get _ _ _ (by have := h.fr.size; omega)).trans hv, fun q => (by obtain ⟨va, vc, g1, g2⟩ := h.e5 (by simpa using q); exact ⟨va, vc, by rw [put_ne _ _ _ _ (by decide)]; exact g1, g2⟩), fun q => (by rw [put_ne _ _ _ _ (by decide)]; exact h.e6 (by simpa using q)), fun q => (by rw [put_ne _ _ _ _ (by decide)]; exact h.e7 (by simpa using q)), fun q => (by rw [put_ne _ _ _ _ (by decide)]; exact h.e8 (by simpa using q)), fun q => (by rw [put_ne _ _ _ _ (by decide)]; exact h.e9 (by simpa using q)), fun q => (by rw [put_ne _ _ _ _ (by decide)]; exact h.e10 (by simpa using q)), fun q => (by rw [put_ne _ _ _ _ (by decide)]; exact h.e11 (by simpa using q))⟩

theorem pt5 {w : World} {a0 : Act} {G : Nat} {ca : Option Addr} {nC cc ga nA ac : Nat} {bv : Value} {C : List Tk} {d : Nat → Bool} {a : Act} {W : World} (h : PtI w a0 G ca nC cc ga nA ac bv C d a W) (hs : 88 ≤ a0.tmps.size) {W' : World} {va : Option Addr} {vc : Nat} (hO : W'.ownsRow W.heap.size 46 4 (.slice va nC vc) nC (flat tkC C)) (hb : Below W.heap.size W W') : PtI w a0 G ca nC cc ga nA ac bv C (fun j => j == 5 || d j) (a.put (some 77) (.slice va nC vc)) W' :=
  ⟨h.fr.put (by decide) _, lxon h.bel hb, fun q => (by rw [put_ne _ _ _ _ (by decide)]; exact h.e0 (by simpa using q)), fun q => (by rw [put_ne _ _ _ _ (by decide)]; exact h.e1 (by simpa using q)), fun q => (by rw [put_ne _ _ _ _ (by decide)]; exact h.e2 (by simpa using q)), fun q => (by rw [put_ne _ _ _ _ (by decide)]; exact h.e3 (by simpa using q)), fun q => (by rw [put_ne _ _ _ _ (by decide)]; exact h.e4 (by simpa using q)), fun _ => ⟨va, vc, put_get _ _ _ (by have := h.fr.size; omega), Rw.owns_mono hO fun q hq => Nat.le_trans h.bel.size (hO.lt q hq).1⟩, fun q => (by rw [put_ne _ _ _ _ (by decide)]; exact h.e6 (by simpa using q)), fun q => (by rw [put_ne _ _ _ _ (by decide)]; exact h.e7 (by simpa using q)), fun q => (by rw [put_ne _ _ _ _ (by decide)]; exact h.e8 (by simpa using q)), fun q => (by rw [put_ne _ _ _ _ (by decide)]; exact h.e9 (by simpa using q)), fun q => (by rw [put_ne _ _ _ _ (by decide)]; exact h.e10 (by simpa using q)), fun q => (by rw [put_ne _ _ _ _ (by decide)]; exact h.e11 (by simpa using q))⟩

theorem pt6 {w : World} {a0 : Act} {G : Nat} {ca : Option Addr} {nC cc ga nA ac : Nat} {bv : Value} {C : List Tk} {d : Nat → Bool} {a : Act} {W : World} (h : PtI w a0 G ca nC cc ga nA ac bv C d a W) (hs : 88 ≤ a0.tmps.size) {v : Value} (hv : v = .slice (some ⟨ga, 0, none⟩) nA ac) : PtI w a0 G ca nC cc ga nA ac bv C (fun j => j == 6 || d j) (a.put (some 78) v) W :=
  ⟨h.fr.put (by decide) _, h.bel, fun q => (by rw [put_ne _ _ _ _ (by decide)]; exact h.e0 (by simpa using q)), fun q => (by rw [put_ne _ _ _ _ (by decide)]; exact h.e1 (by simpa using q)), fun q => (by rw [put_ne _ _ _ _ (by decide)]; exact h.e2 (by simpa using q)), fun q => (by rw [put_ne _ _ _ _ (by decide)]; exact h.e3 (by simpa using q)), fun q => (by rw [put_ne _ _ _ _ (by decide)]; exact h.e4 (by simpa using q)), fun q => (by obtain ⟨va, vc, g1, g2⟩ := h.e5 (by simpa using q); exact ⟨va, vc, by rw [put_ne _ _ _ _ (by decide)]; exact g1, g2⟩), fun _ => (put_get _ _ _ (by have := h.fr.size; omega)).trans hv, fun q => (by rw [put_ne _ _ _ _ (by decide)]; exact h.e7 (by simpa using q)), fun q => (by rw [put_ne _ _ _ _ (by decide)]; exact h.e8 (by simpa using q)), fun q => (by rw [put_ne _ _ _ _ (by decide)]; exact h.e9 (by simpa using q)), fun q => (by rw [put_ne _ _ _ _ (by decide)]; exact h.e10 (by simpa using q)), fun q => (by rw [put_ne _ _ _ _ (by decide)]; exact h.e11 (by simpa using q))⟩

theorem pt7 {w : World} {a0 : Act} {G : Nat} {ca : Option Addr} {nC cc ga nA ac : Nat} {bv : Value} {C : List Tk} {d : Nat → Bool} {a : Act} {W : World} (h : PtI w a0 G ca nC cc ga nA ac bv C d a W) (hs : 88 ≤ a0.tmps.size) {v : Value} (hv : v = .slice (some ⟨ga, 0, none⟩) nA ac) : PtI w a0 G ca nC cc ga nA ac bv C (fun j => j == 7 || d j) (a.put (some 79) v) W :=
  ⟨h.fr.put (by decide) _, h.bel, fun q => (by rw [put_ne _ _ _ _ (by decide)]; exact h.e0 (by simpa using q)), fun q => (by rw [put_ne _ _ _ _ (by decide)]; exact h.e1 (by simpa using q)), fun q => (by rw [put_ne _ _ _ _ (by decide)]; exact h.e2 (by simpa using q)), fun q => (by rw [put_ne _ _ _ _ (by decide)]; exact h.e3 (by simpa using q)), fun q => (by rw [put_ne _ _ _ _ (by decide)]; exact h.e4 (by simpa using q)), fun q => (by obtain ⟨va, vc, g1, g2⟩ := h.e5 (by simpa using q); exact ⟨va, vc, by rw [put_ne _ _ _ _ (by decide)]; exact g1, g2⟩), fun q => (by rw [put_ne _ _ _ _ (by decide)]; exact h.e6 (by simpa using q)), fun _ => (put_get _ _ _ (by have := h.fr.size; omega)).trans hv, fun q => (by rw [put_ne _ _ _ _ (by decide)]; exact h.e8 (by simpa using q)), fun q => (by rw [put_ne _ _ _ _ (by decide)]; exact h.e9 (by simpa using q)), fun q => (by rw [put_ne _ _ _ _ (by decide)]; exact h.e10 (by simpa using q)), fun q => (by rw [put_ne _ _ _ _ (by decide)]; exact h.e11 (by simpa using q))⟩

theorem pt8 {w : World} {a0 : Act} {G : Nat} {ca : Option Addr} {nC cc ga nA ac : Nat} {bv : Value} {C : List Tk} {d : Nat → Bool} {a : Act} {W : World} (h : PtI w a0 G ca nC cc ga nA ac bv C d a W) (hs : 88 ≤ a0.tmps.size) {v : Value} (hv : v = .int .i64 nA) : PtI w a0 G ca nC cc ga nA ac bv C (fun j => j == 8 || d j) (a.put (some 80) v) W :=
  ⟨h.fr.put (by decide) _, h.bel, fun q => (by rw [put_ne _ _ _ _ (by decide)]; exact h.e0 (by simpa using q)), fun q => (by rw [put_ne _ _ _ _ (by decide)]; exact h.e1 (by simpa using q)), fun q => (by rw [put_ne _ _ _ _ (by decide)]; exact h.e2 (by simpa using q)), fun q => (by rw [put_ne _ _ _ _ (by decide)]; exact h.e3 (by simpa using q)), fun q => (by rw [put_ne _ _ _ _ (by decide)]; exact h.e4 (by simpa using q)), fun q => (by obtain ⟨va, vc, g1, g2⟩ := h.e5 (by simpa using q); exact ⟨va, vc, by rw [put_ne _ _ _ _ (by decide)]; exact g1, g2⟩), fun q => (by rw [put_ne _ _ _ _ (by decide)]; exact h.e6 (by simpa using q)), fun q => (by rw [put_ne _ _ _ _ (by decide)]; exact h.e7 (by simpa using q)), fun _ => (put_get _ _ _ (by have := h.fr.size; omega)).trans hv, fun q => (by rw [put_ne _ _ _ _ (by decide)]; exact h.e9 (by simpa using q)), fun q => (by rw [put_ne _ _ _ _ (by decide)]; exact h.e10 (by simpa using q)), fun q => (by rw [put_ne _ _ _ _ (by decide)]; exact h.e11 (by simpa using q))⟩

theorem pt9 {w : World} {a0 : Act} {G : Nat} {ca : Option Addr} {nC cc ga nA ac : Nat} {bv : Value} {C : List Tk} {d : Nat → Bool} {a : Act} {W : World} (h : PtI w a0 G ca nC cc ga nA ac bv C d a W) (hs : 88 ≤ a0.tmps.size) {v : Value} (hv : v = .int .i64 ((nA : Int) - 1)) : PtI w a0 G ca nC cc ga nA ac bv C (fun j => j == 9 || d j) (a.put (some 81) v) W :=
  ⟨h.fr.put (by decide) _, h.bel, fun q => (by rw [put_ne _ _ _ _ (by decide)]; exact h.e0 (by simpa using q)), fun q => (by rw [put_ne _ _ _ _ (by decide)]; exact h.e1 (by simpa using q)), fun q => (by rw [put_ne _ _ _ _ (by decide)]; exact h.e2 (by simpa using q)), fun q => (by rw [put_ne _ _ _ _ (by decide)]; exact h.e3 (by simpa using q)), fun q => (by rw [put_ne _ _ _ _ (by decide)]; exact h.e4 (by simpa using q)), fun q => (by obtain ⟨va, vc, g1, g2⟩ := h.e5 (by simpa using q); exact ⟨va, vc, by rw [put_ne _ _ _ _ (by decide)]; exact g1, g2⟩), fun q => (by rw [put_ne _ _ _ _ (by decide)]; exact h.e6 (by simpa using q)), fun q => (by rw [put_ne _ _ _ _ (by decide)]; exact h.e7 (by simpa using q)), fun q => (by rw [put_ne _ _ _ _ (by decide)]; exact h.e8 (by simpa using q)), fun _ => (put_get _ _ _ (by have := h.fr.size; omega)).trans hv, fun q => (by rw [put_ne _ _ _ _ (by decide)]; exact h.e10 (by simpa using q)), fun q => (by rw [put_ne _ _ _ _ (by decide)]; exact h.e11 (by simpa using q))⟩

theorem pt10 {w : World} {a0 : Act} {G : Nat} {ca : Option Addr} {nC cc ga nA ac : Nat} {bv : Value} {C : List Tk} {d : Nat → Bool} {a : Act} {W : World} (h : PtI w a0 G ca nC cc ga nA ac bv C d a W) (hs : 88 ≤ a0.tmps.size) {v : Value} (hv : v = .slice (some ⟨ga, 0, none⟩) (nA - 1) ac) : PtI w a0 G ca nC cc ga nA ac bv C (fun j => j == 10 || d j) (a.put (some 82) v) W :=
  ⟨h.fr.put (by decide) _, h.bel, fun q => (by rw [put_ne _ _ _ _ (by decide)]; exact h.e0 (by simpa using q)), fun q => (by rw [put_ne _ _ _ _ (by decide)]; exact h.e1 (by simpa using q)), fun q => (by rw [put_ne _ _ _ _ (by decide)]; exact h.e2 (by simpa using q)), fun q => (by rw [put_ne _ _ _ _ (by decide)]; exact h.e3 (by simpa using q)), fun q => (by rw [put_ne _ _ _ _ (by decide)]; exact h.e4 (by simpa using q)), fun q => (by obtain ⟨va, vc, g1, g2⟩ := h.e5 (by simpa using q); exact ⟨va, vc, by rw [put_ne _ _ _ _ (by decide)]; exact g1, g2⟩), fun q => (by rw [put_ne _ _ _ _ (by decide)]; exact h.e6 (by simpa using q)), fun q => (by rw [put_ne _ _ _ _ (by decide)]; exact h.e7 (by simpa using q)), fun q => (by rw [put_ne _ _ _ _ (by decide)]; exact h.e8 (by simpa using q)), fun q => (by rw [put_ne _ _ _ _ (by decide)]; exact h.e9 (by simpa using q)), fun _ => (put_get _ _ _ (by have := h.fr.size; omega)).trans hv, fun q => (by rw [put_ne _ _ _ _ (by decide)]; exact h.e11 (by simpa using q))⟩

theorem pt11 {w : World} {a0 : Act} {G : Nat} {ca : Option Addr} {nC cc ga nA ac : Nat} {bv : Value} {C : List Tk} {d : Nat → Bool} {a : Act} {W : World} (h : PtI w a0 G ca nC cc ga nA ac bv C d a W) (hs : 88 ≤ a0.tmps.size) {v : Value} (hv : v = bv) : PtI w a0 G ca nC cc ga nA ac bv C (fun j => j == 11 || d j) (a.put (some 83) v) W :=
  ⟨h.fr.put (by decide) _, h.bel, fun q => (by rw [put_ne _ _ _ _ (by decide)]; exact h.e0 (by simpa using q)), fun q => (by rw [put_ne _ _ _ _ (by decide)]; exact h.e1 (by simpa using q)), fun q => (by rw [put_ne _ _ _ _ (by decide)]; exact h.e2 (by simpa using q)), fun q => (by rw [put_ne _ _ _ _ (by decide)]; exact h.e3 (by simpa using q)), fun q => (by rw [put_ne _ _ _ _ (by decide)]; exact h.e4 (by simpa using q)), fun q => (by obtain ⟨va, vc, g1, g2⟩ := h.e5 (by simpa using q); exact ⟨va, vc, by rw [put_ne _ _ _ _ (by decide)]; exact g1, g2⟩), fun q => (by rw [put_ne _ _ _ _ (by decide)]; exact h.e6 (by simpa using q)), fun q => (by rw [put_ne _ _ _ _ (by decide)]; exact h.e7 (by simpa using q)), fun q => (by rw [put_ne _ _ _ _ (by decide)]; exact h.e8 (by simpa using q)), fun q => (by rw [put_ne _ _ _ _ (by decide)]; exact h.e9 (by simpa using q)), fun q => (by rw [put_ne _ _ _ _ (by decide)]; exact h.e10 (by simpa using q)), fun _ => (put_get _ _ _ (by have := h.fr.size; omega)).trans hv⟩

structure PtOps (ops : Array Oper) : Prop where
  o0 : ∃ o, ops[0]? = some o ∧ o.op = .fieldAddr 26 (.tmp 10) 0 ∧ o.dst = some 72 ∧ o.guard = none
  o1 : ∃ o, ops[1]? = some o ∧ o.op = .load 24 (.tmp 72) ∧ o.dst = some 73 ∧ o.guard = none ∧ (∃ e ∈ o.after, Region.binds .any e = true ∧ e.on = 0)
  o2 : ∃ o, ops[2]? = some o ∧ o.op = .binOp .eql 24 (.tmp 73) (.const (.int .i64 0)) 24 ∧ o.dst = some 74 ∧ o.guard = none ∧ (∃ e ∈ o.after, Region.binds .any e = true ∧ e.on = 1)
  o3 : ∃ o, ops[3]? = some o ∧ o.op = .move (.tmp 74) ∧ o.dst = some 75 ∧ o.guard = none ∧ (∃ e ∈ o.after, Region.binds .any e = true ∧ e.on = 2)
  o4 : ∃ o, ops[4]? = some o ∧ o.op = .move (.tmp 9) ∧ o.dst = some 76 ∧ o.guard = some (3, true) ∧ (∃ e ∈ o.after, Region.binds .any e = true ∧ e.on = 3)
  o5 : ∃ o, ops[5]? = some o ∧ o.op = .call { callee := .value (.func 11), args := #[.tmp 76], argTypes := #[23] } ∧ o.dst = some 77 ∧ o.guard = some (3, true) ∧ (∃ e ∈ o.after, Region.binds .any e = true ∧ e.on = 4) ∧ (∃ e ∈ o.after, Region.binds .any e = true ∧ e.on = 3)
  o6 : ∃ o, ops[6]? = some o ∧ o.op = .move (.tmp 5) ∧ o.dst = some 78 ∧ o.guard = some (3, true) ∧ (∃ e ∈ o.after, Region.binds .any e = true ∧ e.on = 3)
  o7 : ∃ o, ops[7]? = some o ∧ o.op = .move (.tmp 5) ∧ o.dst = some 79 ∧ o.guard = some (3, true) ∧ (∃ e ∈ o.after, Region.binds .any e = true ∧ e.on = 3)
  o8 : ∃ o, ops[8]? = some o ∧ o.op = .call { callee := .builtin .len, args := #[.tmp 79], argTypes := #[23] } ∧ o.dst = some 80 ∧ o.guard = some (3, true) ∧ (∃ e ∈ o.after, Region.binds .any e = true ∧ e.on = 7) ∧ (∃ e ∈ o.after, Region.binds .any e = true ∧ e.on = 3)
  o9 : ∃ o, ops[9]? = some o ∧ o.op = .binOp .sub 3 (.tmp 80) (.const (.int .i64 1)) 3 ∧ o.dst = some 81 ∧ o.guard = some (3, true) ∧ (∃ e ∈ o.after, Region.binds .any e = true ∧ e.on = 8) ∧ (∃ e ∈ o.after, Region.binds .any e = true ∧ e.on = 3)
  o10 : ∃ o, ops[10]? = some o ∧ o.op = .slice 23 (.tmp 78) none (some (.tmp 81)) none ∧ o.dst = some 82 ∧ o.guard = some (3, true) ∧ (∃ e ∈ o.after, Region.binds .any e = true ∧ e.on = 6) ∧ (∃ e ∈ o.after, Region.binds .any e = true ∧ e.on = 9) ∧ (∃ e ∈ o.after, Region.binds .any e = true ∧ e.on = 3)
  o11 : ∃ o, ops[11]? = some o ∧ o.op = .move (.tmp 7) ∧ o.dst = some 83 ∧ o.guard = some (3, true) ∧ (∃ e ∈ o.after, Region.binds .any e = true ∧ e.on = 3)

/-- The law. -/
theorem pt_region {l : List Oper} {Q : Exit → Act → World → Prop} {id : Nat} {w : World} {a0 : Act} {G : Nat} {ca : Option Addr} {nC cc ga nA ac : Nat} {bv : Value} {C : List Tk} (O : PtOps l.toArray) (hs : 88 ≤ a0.tmps.size) (h5 : a0.eval (.tmp 5) = .slice (some ⟨ga, 0, none⟩) nA ac) (h7 : a0.eval (.tmp 7) = bv) (h9 : a0.eval (.tmp 9) = .slice ca nC cc) (h10 : a0.eval (.tmp 10) = .pointer (some ⟨G, 0, none⟩)) (hG : w.cell? ⟨G, 0, none⟩ = some (.int .i64 0)) (hA1 : 1 ≤ nA) (hA2 : nA ≤ 1000000) (hA3 : nA ≤ ac) (hC : SlG tkC 4 w ca C) (hCl : C.length = nC) (hCn : nC ≤ 200000)
    (hS : Region.sinkB .any l.toArray 12 = true) (hN : Region.chainB .any l.toArray 12 = true) (hn : 12 < l.length) (hlow : ∀ (i : Nat) (o : Oper), l.toArray[i]? = some o → ∀ e ∈ o.after, Region.binds .any e = true → e.on < i) (hseq : Region.seqB .any l.toArray (l.length - 12) 12 (doneN 12 l.length) = true)
    (hQ : ∀ (va : Option Addr) (vc : Nat) (W : World), Below w.heap.size w W → W.ownsRow w.heap.size 46 4 (.slice va nC vc) nC (flat tkC C) →
      wpList Tryd.prog l.toArray Q (l.drop 12) ((((((((((((a0.put (some 72) (.pointer (some ⟨G, 0, none⟩))).put (some 73) (.int .i64 0)).put (some 74) (.bool true)).put (some 75) (.bool true)).put (some 76) (.slice ca nC cc)).put (some 77) (.slice va nC vc)).put (some 78) (.slice (some ⟨ga, 0, none⟩) nA ac)).put (some 79) (.slice (some ⟨ga, 0, none⟩) nA ac)).put (some 80) (.int .i64 nA)).put (some 81) (.int .i64 ((nA : Int) - 1))).put (some 82) (.slice (some ⟨ga, 0, none⟩) (nA - 1) ac)).put (some 83) bv) W) :
    (Code.region id l.toArray true).wp Tryd.prog Q a0 w := by
  have hGl := World.block_lt_of_cell? _ _ hG
  refine wp_region_headI 12 (PtI w a0 G ca nC cc ga nA ac bv C) (by kernel_rfl) hS hN hn hlow hseq ?_ ?_ ?_
  · refine ⟨FrmS.refl _ _, ⟨rfl, rfl, rfl, Nat.le_refl _, fun _ _ => rfl⟩, ?_, ?_, ?_, ?_, ?_, ?_, ?_, ?_, ?_, ?_, ?_, ?_⟩ <;> (intro q; cases q)
  · intro d a W i o hi hi12 hd hdep I
    obtain ⟨o3, k1, k2, k3, k4, -⟩ := O.o3
    have hsz : a.tmps.size = a0.tmps.size := I.fr.size
    have hcs : i = 0 ∨ i = 1 ∨ i = 2 ∨ i = 3 ∨ i = 4 ∨ i = 5 ∨ i = 6 ∨ i = 7 ∨ i = 8 ∨ i = 9 ∨ i = 10 ∨ i = 11 := by omega
    rcases hcs with rfl | rfl | rfl | rfl | rfl | rfl | rfl | rfl | rfl | rfl | rfl | rfl
    · obtain ⟨o', h1', h2, h3, h4⟩ := O.o0
      obtain rfl : o' = o := by rw [h1'] at hi; exact Option.some.inj hi
      refine wpOp_of h1' h4 (pop_field h2 ((I.fr.eval (by decide)).trans h10) ?_)
      rw [h3]; exact pt0 I hs rfl
    · obtain ⟨o', h1', h2, h3, h4, p1⟩ := O.o1
      obtain rfl : o' = o := by rw [h1'] at hi; exact Option.some.inj hi
      refine wpOp_of h1' h4 (pop_load h2 (I.e0 (sdep p1 hdep)) (by rw [I.bel.cell hGl]; exact hG) ?_)
      rw [h3]; exact pt1 I hs rfl
    · obtain ⟨o', h1', h2, h3, h4, p1⟩ := O.o2
      obtain rfl : o' = o := by rw [h1'] at hi; exact Option.some.inj hi
      refine wpOp_of h1' h4 (pop_eql h2 (I.e1 (sdep p1 hdep)) ?_)
      rw [h3]; exact pt2 I hs rfl
    · obtain ⟨o', h1', h2, h3, h4, p1⟩ := O.o3
      obtain rfl : o' = o := by rw [h1'] at hi; exact Option.some.inj hi
      refine wpOp_of h1' h4 (sop_move h2 (I.e2 (sdep p1 hdep)) ?_)
      rw [h3]; exact pt3 I hs rfl
    · obtain ⟨o', h1', h2, h3, h4, p1⟩ := O.o4
      obtain rfl : o' = o := by rw [h1'] at hi; exact Option.some.inj hi
      refine wpOp_guard h1' h4 k1 k3 (by omega) (I.e3 (sdep p1 hdep)) (sop_move h2 ((I.fr.eval (by decide)).trans h9) ?_)
      rw [h3]; exact pt4 I hs rfl
    · obtain ⟨o', h1', h2, h3, h4, p1, p2⟩ := O.o5
      obtain rfl : o' = o := by rw [h1'] at hi; exact Option.some.inj hi
      refine wpOp_guard h1' h4 k1 k3 (by omega) (I.e3 (sdep p2 hdep)) (pop_call (R := fun u W' => W'.ownsRow W.heap.size 46 4 u nC (flat tkC C) ∧ Below W.heap.size W W') h2 (I.e4 (sdep p1 hdep)) (plain_walk (hC.below I.bel) hCl hCn) ?_)
      rintro u W' ⟨g1, g2⟩
      obtain ⟨va, vc, rfl⟩ := owns_slice g1
      rw [h3]; exact pt5 I hs g1 g2
    · obtain ⟨o', h1', h2, h3, h4, p1⟩ := O.o6
      obtain rfl : o' = o := by rw [h1'] at hi; exact Option.some.inj hi
      refine wpOp_guard h1' h4 k1 k3 (by omega) (I.e3 (sdep p1 hdep)) (sop_move h2 ((I.fr.eval (by decide)).trans h5) ?_)
      rw [h3]; exact pt6 I hs rfl
    · obtain ⟨o', h1', h2, h3, h4, p1⟩ := O.o7
      obtain rfl : o' = o := by rw [h1'] at hi; exact Option.some.inj hi
      refine wpOp_guard h1' h4 k1 k3 (by omega) (I.e3 (sdep p1 hdep)) (sop_move h2 ((I.fr.eval (by decide)).trans h5) ?_)
      rw [h3]; exact pt7 I hs rfl
    · obtain ⟨o', h1', h2, h3, h4, p1, p2⟩ := O.o8
      obtain rfl : o' = o := by rw [h1'] at hi; exact Option.some.inj hi
      refine wpOp_guard h1' h4 k1 k3 (by omega) (I.e3 (sdep p2 hdep)) (pop_len h2 (I.e7 (sdep p1 hdep)) ?_)
      rw [h3]; exact pt8 I hs rfl
    · obtain ⟨o', h1', h2, h3, h4, p1, p2⟩ := O.o9
      obtain rfl : o' = o := by rw [h1'] at hi; exact Option.some.inj hi
      refine wpOp_guard h1' h4 k1 k3 (by omega) (I.e3 (sdep p2 hdep)) (pop_sub h2 (I.e8 (sdep p1 hdep)) hA1 hA2 ?_)
      rw [h3]; exact pt9 I hs rfl
    · obtain ⟨o', h1', h2, h3, h4, p1, p2, p3⟩ := O.o10
      obtain rfl : o' = o := by rw [h1'] at hi; exact Option.some.inj hi
      refine wpOp_guard h1' h4 k1 k3 (by omega) (I.e3 (sdep p3 hdep)) (pop_slice h2 (I.e6 (sdep p1 hdep)) (I.e9 (sdep p2 hdep)) hA1 hA3 ?_)
      rw [h3]; exact pt10 I hs rfl
    · obtain ⟨o', h1', h2, h3, h4, p1⟩ := O.o11
      obtain rfl : o' = o := by rw [h1'] at hi; exact Option.some.inj hi
      refine wpOp_guard h1' h4 k1 k3 (by omega) (I.e3 (sdep p1 hdep)) (sop_move h2 ((I.fr.eval (by decide)).trans h7) ?_)
      rw [h3]; exact pt11 I hs rfl
  · intro d a W hall I
    obtain ⟨va, vc, g1, g2⟩ := I.e5 (hall 5 (by decide))
    have ha := I.fr.all (by intro t ht; simp [ptS] at ht; omega)
    rw [ha]
    simp only [putAll, ptS]
    rw [I.e0 (hall 0 (by decide)), I.e1 (hall 1 (by decide)), I.e2 (hall 2 (by decide)), I.e3 (hall 3 (by decide)), I.e4 (hall 4 (by decide)), g1, I.e6 (hall 6 (by decide)), I.e7 (hall 7 (by decide)), I.e8 (hall 8 (by decide)), I.e9 (hall 9 (by decide)), I.e10 (hall 10 (by decide)), I.e11 (hall 11 (by decide))]
    exact hQ va vc W I.bel g2
end Go.Proofs.YtfokllgfejcehaaDoor
