/-
  Expr: the document's Eval: columns.
-/
import Derived.BigQuiet
import Derived.Deep.QuietTactic
import Derived.Test.YtlckoenkogaibaaEvX
namespace Go.Proofs.Ytlckoenkogaibaa
open Go.RowKit

section
variable {w W : World} {n : Nat} {ra : Option Addr} {rs : List RowL} {m rc : Nat} {xo : ByteArray} {xk xn : Int} {xs : ByteArray} {xv xc : Int} {xa : Option Addr} {k xp : Nat} {l : List NL}

set_option maxRecDepth 100000 in
set_option maxHeartbeats 1600000 in
theorem reval_col_out (hv : xv < 0 ∨ (rs.length : Int) ≤ xv) (hl : l = []) (ho : xo.toList = nCOLUMN) (hF : RowsFit rs) :
    Calls Try.prog 8 #[nV (.mk xo xk xn xs xv xc xa xp l), .slice ra rs.length rc] w (RvP (evCol rs xv xc) w) := by
  have k1 : (xo.toList == [118, 97, 108, 117, 101]) = false := by rw [ho]; rfl
  have k2 : (xo.toList == [99, 111, 108, 117, 109, 110]) = true := by rw [ho]; rfl
  have hll : rs.length ≤ 9223372036854775807 := hF.1
  subst hl
  unfold nV
  dsimp only [NL.op, NL.vk, NL.vn, NL.vs, NL.var, NL.col, NL.a, NL.c, NL.kids, List.length_nil]
  clear ho
  have hB := fun o1 o2 o3 => Rw.dh (below_three w o1 o2 o3)
  by_cases h0 : xv < 0
  · rw [evCol_lo h0]
    go_enter Try.func8, Try.ntmps8
    go_wp2_with fail
    go_quiet (fail)
    refine Rw.to_letter (F := fun W => Rbx w W xo xk xn xs xv xc xa 0 xp) (Rbx.new _) ?_
    intro W hE
    have HE := Rw.dh hE
    obtain ⟨n0, n1, n2, n3, n4, n5, n6⟩ := hE.cn
    obtain ⟨r0, r1, r2, r3, r4, r5⟩ := cells3 hE.r
    obtain ⟨z0, z1, z2, z3, z4, z5⟩ := cells3 hE.z
    clear hE
    go_wp2
    exact bodyPost_ret (v := .tuple #[.agg #[.int .i64 0, .int .i64 0, .string ⟨#[]⟩], .int .i64 15]) (by simp [results, Try.results8, go_sem, r0, r1, r2]) rfl ⟨rfl, below_set3 (by omega) HE.out.bel _ _ _⟩
  by_cases h1 : (rs.length : Int) ≤ xv
  · rw [evCol_hi h0 h1]
    have g0 : decide (xv < 0) = false := by first | exact decide_eq_true (by omega) | exact decide_eq_false (by omega)
    have g1 : decide ((rs.length : Int) ≤ xv) = true := by first | exact decide_eq_true (by omega) | exact decide_eq_false (by omega)
    have g2 : decide (xv ≥ (rs.length : Int)) = true := by first | exact decide_eq_true (by omega) | exact decide_eq_false (by omega)
    go_enter Try.func8, Try.ntmps8
    go_wp2_with fail
    go_quiet (fail)
    refine Rw.to_letter (F := fun W => Rbx w W xo xk xn xs xv xc xa 0 xp) (Rbx.new _) ?_
    intro W hE
    have HE := Rw.dh hE
    obtain ⟨n0, n1, n2, n3, n4, n5, n6⟩ := hE.cn
    obtain ⟨r0, r1, r2, r3, r4, r5⟩ := cells3 hE.r
    obtain ⟨z0, z1, z2, z3, z4, z5⟩ := cells3 hE.z
    clear hE
    go_wp2
    exact bodyPost_ret (v := .tuple #[.agg #[.int .i64 0, .int .i64 0, .string ⟨#[]⟩], .int .i64 15]) (by simp [results, Try.results8, go_sem, r0, r1, r2]) rfl ⟨rfl, below_set3 (by omega) HE.out.bel _ _ _⟩
  exact absurd hv (by omega)
end
end Go.Proofs.Ytlckoenkogaibaa
