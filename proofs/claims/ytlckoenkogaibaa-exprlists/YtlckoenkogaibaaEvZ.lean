/-
  Expr: the document's Eval: columns.
-/
import Derived.BigQuiet
import Derived.Deep.QuietTactic
import Derived.Test.YtlckoenkogaibaaEvX
namespace Go.Proofs.Ytlckoenkogaibaa
open Go.RowKit

section
variable {w W : World} {n : Nat} {ra : Option Addr} {rs : List RowL} {m rc : Nat} {xo : ByteArray} {xk xn : Int} {xs : ByteArray} {xv xc : Int} {xa : Option Addr} {k xp : Nat} {l : List NL}


theorem Rbx.new0 : Rbx w (((w.alloc (.cells #[.string xo, .int .i64 xk, .int .i64 xn, .string xs, .int .i64 xv, .int .i64 xc, .slice xa k xp] 37)).alloc (.cells #[.int .i64 0, .int .i64 0, .string ⟨#[]⟩] 23)).alloc (.cells #[.int .i64 0, .int .i64 0, .string ⟨#[]⟩] 23)) xo xk xn xs xv xc xa k xp :=
  ⟨below_three w _ _ _,
    ((Below.heap_alloc _ _ _ (by simp; omega)).trans (Below.heap_alloc _ _ _ (by simp))).trans (Rw.heap_new w _),
    (Below.heap_alloc _ _ _ (by simp)).trans (heap_two w _ _), heap_three w _ _ _⟩
theorem Rbx.drewN (h : Rbx w W xo xk xn xs xv xc xa k xp) (nq : Nat) : Rbx w (W.drewN nq) xo xk xn xs xv xc xa k xp := h.on (below_drewN (Below.refl _ _) nq)

set_option maxRecDepth 100000 in
set_option maxHeartbeats 1600000 in
theorem reval_col_clo {b o : Nat} {r : RowL} (hv0 : 0 ≤ xv) (hv1 : xv < (rs.length : Int)) (hb : b < w.heap.size) (c0 : w.cell? ⟨b, o + xv.toNat, none⟩ = some (.slice r.a r.l.length r.c)) (h2 : xc < 0) (hl : l = []) (ho : xo.toList = nCOLUMN) :
    Calls Try.prog 8 #[nV (.mk xo xk xn xs xv xc xa xp l), .slice (some ⟨b, o, none⟩) rs.length rc] w (RvP (vz, 15) w) := by
  have k1 : (xo.toList == [118, 97, 108, 117, 101]) = false := by rw [ho]; rfl
  have k2 : (xo.toList == [99, 111, 108, 117, 109, 110]) = true := by rw [ho]; rfl
  subst hl
  unfold nV
  dsimp only [NL.op, NL.vk, NL.vn, NL.vs, NL.var, NL.col, NL.a, NL.c, NL.kids, List.length_nil]
  clear ho
  have g0 : decide (xv < 0) = false := decide_eq_false (by omega)
  have g1 : decide ((rs.length : Int) ≤ xv) = false := decide_eq_false (by omega)
  have g2 : decide (xv ≥ (rs.length : Int)) = false := decide_eq_false (by omega)
  have g3 : decide (xc < 0) = true := decide_eq_true (by omega)
  generalize rs.length = N at *
  generalize r.l.length = M at *
  go_enter Try.func8, Try.ntmps8
  go_wp2_with fail
  refine Rw.to_letter (F := fun W => Rbx w W xo xk xn xs xv xc xa 0 xp) Rbx.new0 ?_
  intro W hE
  have HE := Rw.dh hE
  obtain ⟨n0, n1, n2, n3, n4, n5, n6⟩ := hE.cn
  have e0 : W.cell? ⟨b, o + xv.toNat, none⟩ = some (.slice r.a M r.c) := by rw [hE.bel.cell hb]; assumption
  clear hE
  go_quiet (fail)
  rename_i nq
  refine Rw.to_letter (F := fun W => Rbx w W xo xk xn xs xv xc xa 0 xp) (HE.out.drewN _) ?_
  clear HE
  intro V hE
  skip
  have HE := Rw.dh hE
  obtain ⟨m0, m1, m2, m3, m4, m5, m6⟩ := hE.cn
  obtain ⟨r0, r1, r2, r3, r4, r5⟩ := cells3 hE.r
  obtain ⟨z0, z1, z2, z3, z4, z5⟩ := cells3 hE.z
  clear hE
  go_wp2
  exact bodyPost_ret (v := .tuple #[.agg #[.int .i64 0, .int .i64 0, .string ⟨#[]⟩], .int .i64 15]) (by simp [results, Try.results8, go_sem, r0, r1, r2]) rfl ⟨rfl, below_set3 (by omega) HE.out.bel _ _ _⟩
set_option maxRecDepth 100000 in
set_option maxHeartbeats 1600000 in
theorem reval_col_chi {b o : Nat} {r : RowL} (hv0 : 0 ≤ xv) (hv1 : xv < (rs.length : Int)) (hb : b < w.heap.size) (c0 : w.cell? ⟨b, o + xv.toNat, none⟩ = some (.slice r.a r.l.length r.c)) (h2 : 0 ≤ xc) (h3 : (r.l.length : Int) ≤ xc) (hl : l = []) (ho : xo.toList = nCOLUMN) :
    Calls Try.prog 8 #[nV (.mk xo xk xn xs xv xc xa xp l), .slice (some ⟨b, o, none⟩) rs.length rc] w (RvP (vz, 15) w) := by
  have k1 : (xo.toList == [118, 97, 108, 117, 101]) = false := by rw [ho]; rfl
  have k2 : (xo.toList == [99, 111, 108, 117, 109, 110]) = true := by rw [ho]; rfl
  subst hl
  unfold nV
  dsimp only [NL.op, NL.vk, NL.vn, NL.vs, NL.var, NL.col, NL.a, NL.c, NL.kids, List.length_nil]
  clear ho
  have g0 : decide (xv < 0) = false := decide_eq_false (by omega)
  have g1 : decide ((rs.length : Int) ≤ xv) = false := decide_eq_false (by omega)
  have g2 : decide (xv ≥ (rs.length : Int)) = false := decide_eq_false (by omega)
  have g3 : decide (xc < 0) = false := decide_eq_false (by omega)
  have g4 : decide ((r.l.length : Int) ≤ xc) = true := decide_eq_true (by omega)
  have g5 : decide (xc ≥ (r.l.length : Int)) = true := decide_eq_true (by omega)
  generalize rs.length = N at *
  generalize r.l.length = M at *
  go_enter Try.func8, Try.ntmps8
  go_wp2_with fail
  refine Rw.to_letter (F := fun W => Rbx w W xo xk xn xs xv xc xa 0 xp) Rbx.new0 ?_
  intro W hE
  have HE := Rw.dh hE
  obtain ⟨n0, n1, n2, n3, n4, n5, n6⟩ := hE.cn
  have e0 : W.cell? ⟨b, o + xv.toNat, none⟩ = some (.slice r.a M r.c) := by rw [hE.bel.cell hb]; assumption
  clear hE
  go_quiet (fail)
  rename_i nq
  refine Rw.to_letter (F := fun W => Rbx w W xo xk xn xs xv xc xa 0 xp) (HE.out.drewN _) ?_
  clear HE
  intro V hE
  skip
  have HE := Rw.dh hE
  obtain ⟨m0, m1, m2, m3, m4, m5, m6⟩ := hE.cn
  obtain ⟨r0, r1, r2, r3, r4, r5⟩ := cells3 hE.r
  obtain ⟨z0, z1, z2, z3, z4, z5⟩ := cells3 hE.z
  clear hE
  go_wp2
  exact bodyPost_ret (v := .tuple #[.agg #[.int .i64 0, .int .i64 0, .string ⟨#[]⟩], .int .i64 15]) (by simp [results, Try.results8, go_sem, r0, r1, r2]) rfl ⟨rfl, below_set3 (by omega) HE.out.bel _ _ _⟩
end
end Go.Proofs.Ytlckoenkogaibaa
