/-
  Expr: the document's Eval: what is bad.
-/
import Derived.BigQuiet
import Derived.Deep.QuietTactic
import Derived.Test.YtlckoenkogaibaaEvZ
namespace Go.Proofs.Ytlckoenkogaibaa
open Go.RowKit

section
variable {w W : World} {n : Nat} {ra : Option Addr} {rs : List RowL} {m rc : Nat} {xo : ByteArray} {xk xn : Int} {xs : ByteArray} {xv xc : Int} {xa : Option Addr} {k xp : Nat} {l : List NL}

/-- Which op it is. -/
theorem kidsN_cases (s : ByteArray) : s.toList = nVALUE ∨ s.toList = nCOLUMN ∨ s.toList = nNEG ∨ s.toList = nNOT ∨ s.toList = nNULL ∨ isTwoN s = true ∨ (kidsN s = -1 ∧ (s.toList == nVALUE) = false ∧ (s.toList == nCOLUMN) = false ∧ (s.toList == nNEG) = false ∧ (s.toList == nNOT) = false ∧ (s.toList == nNULL) = false ∧ isTwoN s = false) := by
  by_cases h1 : s.toList = nVALUE
  · exact Or.inl h1
  by_cases h2 : s.toList = nCOLUMN
  · exact Or.inr (Or.inl h2)
  by_cases h3 : s.toList = nNEG
  · exact Or.inr (Or.inr (Or.inl h3))
  by_cases h4 : s.toList = nNOT
  · exact Or.inr (Or.inr (Or.inr (Or.inl h4)))
  by_cases h5 : s.toList = nNULL
  · exact Or.inr (Or.inr (Or.inr (Or.inr (Or.inl h5))))
  cases h6 : isTwoN s
  · refine Or.inr (Or.inr (Or.inr (Or.inr (Or.inr (Or.inr ⟨?_, beq_eq_false_iff_ne.2 h1, beq_eq_false_iff_ne.2 h2, beq_eq_false_iff_ne.2 h3, beq_eq_false_iff_ne.2 h4, beq_eq_false_iff_ne.2 h5, rfl⟩)))))
    unfold kidsN
    unfold isTwoN at h6
    rw [beq_eq_false_iff_ne.2 h1, beq_eq_false_iff_ne.2 h2, h6]
    have h7 : nops1.contains s.toList = false := by
      simp only [nops1, List.contains_cons, List.contains_nil, beq_eq_false_iff_ne.2 h3, beq_eq_false_iff_ne.2 h4, beq_eq_false_iff_ne.2 h5, Bool.or_false]
    rw [h7]; rfl
  · exact Or.inr (Or.inr (Or.inr (Or.inr (Or.inr (Or.inl rfl)))))

/-- An op of two, and the words of the others. -/
theorem two_facts {s : ByteArray} (h : isTwoN s = true) : kidsN s = 2 ∧ (s.toList == nVALUE) = false ∧ (s.toList == nCOLUMN) = false ∧ (s.toList == nNEG) = false ∧ (s.toList == nNOT) = false ∧ (s.toList == nNULL) = false := by
  unfold isTwoN at h
  unfold kidsN
  have hm : s.toList ∈ nops2 := by simpa using h
  simp only [nops2, List.mem_cons, List.not_mem_nil, or_false] at hm
  rcases hm with e | e | e | e | e | e | e | e | e | e | e <;> rw [e] <;> exact ⟨by decide, by decide, by decide, by decide, by decide, by decide⟩

theorem len_ne {L : Nat} {K : Int} (h : ((L : Int) == K) = false) {c : Int} (hc : K = c) : ((L : Int) != c) = true := by subst hc; simpa [bne] using h

set_option maxRecDepth 100000 in
set_option maxHeartbeats 4000000 in
theorem reval_bad (h : ((l.length : Int) == kidsN xo) = false) :
    Calls Try.prog 8 #[nV (.mk xo xk xn xs xv xc xa xp l), .slice ra rs.length rc] w (RvP (vz, 15) w) := by
  have HT := Rw.dh (fun W => ntwo_walk xo W)
  unfold nV
  dsimp only [NL.op, NL.vk, NL.vn, NL.vs, NL.var, NL.col, NL.a, NL.c, NL.kids]
  generalize l.length = L at *
  generalize rs.length = N at *
  have fin : ∀ P : Prop,
    ((xo.toList == [118, 97, 108, 117, 101]) = true → ((L : Int) == 0) = false → (xo.toList == [99, 111, 108, 117, 109, 110]) = false → (xo.toList == [110, 101, 103]) = false → (xo.toList == [110, 111, 116]) = false → (xo.toList == [110, 117, 108, 108]) = false → isTwoN xo = false → P) →
    ((xo.toList == [118, 97, 108, 117, 101]) = false → ((L : Int) == 0) = false → (xo.toList == [99, 111, 108, 117, 109, 110]) = true → (xo.toList == [110, 101, 103]) = false → (xo.toList == [110, 111, 116]) = false → (xo.toList == [110, 117, 108, 108]) = false → isTwoN xo = false → P) →
    ((xo.toList == [118, 97, 108, 117, 101]) = false → ((L : Int) != 1) = true → (xo.toList == [99, 111, 108, 117, 109, 110]) = false → (xo.toList == [110, 101, 103]) = true → (xo.toList == [110, 111, 116]) = false → (xo.toList == [110, 117, 108, 108]) = false → isTwoN xo = false → P) →
    ((xo.toList == [118, 97, 108, 117, 101]) = false → ((L : Int) != 1) = true → (xo.toList == [99, 111, 108, 117, 109, 110]) = false → (xo.toList == [110, 101, 103]) = false → (xo.toList == [110, 111, 116]) = true → (xo.toList == [110, 117, 108, 108]) = false → isTwoN xo = false → P) →
    ((xo.toList == [118, 97, 108, 117, 101]) = false → ((L : Int) != 1) = true → (xo.toList == [99, 111, 108, 117, 109, 110]) = false → (xo.toList == [110, 101, 103]) = false → (xo.toList == [110, 111, 116]) = false → (xo.toList == [110, 117, 108, 108]) = true → isTwoN xo = false → P) →
    ((xo.toList == [118, 97, 108, 117, 101]) = false → ((L : Int) != 2) = true → (xo.toList == [99, 111, 108, 117, 109, 110]) = false → (xo.toList == [110, 101, 103]) = false → (xo.toList == [110, 111, 116]) = false → (xo.toList == [110, 117, 108, 108]) = false → isTwoN xo = true → P) →
    ((xo.toList == [118, 97, 108, 117, 101]) = false → True → (xo.toList == [99, 111, 108, 117, 109, 110]) = false → (xo.toList == [110, 101, 103]) = false → (xo.toList == [110, 111, 116]) = false → (xo.toList == [110, 117, 108, 108]) = false → isTwoN xo = false → P) → P := by
    intro P f1 f2 f3 f4 f5 f6 f7
    rcases kidsN_cases xo with e | e | e | e | e | e | ⟨-, e1, e2, e3, e4, e5, e6⟩
    · exact f1 (by rw [e]; rfl) (by rw [← h]; simp [kidsN, e]) (by rw [e]; rfl) (by rw [e]; rfl) (by rw [e]; rfl) (by rw [e]; rfl) (by rw [isTwoN, e]; rfl)
    · exact f2 (by rw [e]; rfl) (by rw [← h]; simp [kidsN, e]) (by rw [e]; rfl) (by rw [e]; rfl) (by rw [e]; rfl) (by rw [e]; rfl) (by rw [isTwoN, e]; rfl)
    · exact f3 (by rw [e]; rfl) (len_ne h (by rw [kidsN, e]; rfl)) (by rw [e]; rfl) (by rw [e]; rfl) (by rw [e]; rfl) (by rw [e]; rfl) (by rw [isTwoN, e]; rfl)
    · exact f4 (by rw [e]; rfl) (len_ne h (by rw [kidsN, e]; rfl)) (by rw [e]; rfl) (by rw [e]; rfl) (by rw [e]; rfl) (by rw [e]; rfl) (by rw [isTwoN, e]; rfl)
    · exact f5 (by rw [e]; rfl) (len_ne h (by rw [kidsN, e]; rfl)) (by rw [e]; rfl) (by rw [e]; rfl) (by rw [e]; rfl) (by rw [e]; rfl) (by rw [isTwoN, e]; rfl)
    · obtain ⟨e0, e1, e2, e3, e4, e5⟩ := two_facts e
      exact f6 e1 (len_ne h e0) e2 e3 e4 e5 e
    · exact f7 e1 trivial e2 e3 e4 e5 e6
  clear h
  apply fin
  all_goals
    clear fin
    intro kv kl kc k1 k2 k3 kt
    rw [kt] at HT
    clear kt
    go_enter Try.func8, Try.ntmps8
    go_wp2_with fail
    refine (HT.out _).mono ?_
    rintro e w1 ⟨rfl, hb⟩
    have HE := Rw.dh (Rbx.on (xo := xo) (xk := xk) (xn := xn) (xs := xs) (xv := xv) (xc := xc) (xa := xa) (k := L) (xp := xp) Rbx.new0 hb)
    clear hb HT
    obtain ⟨n0, n1, n2, n3, n4, n5, n6⟩ := HE.out.cn
    obtain ⟨r0, r1, r2, r3, r4, r5⟩ := cells3 HE.out.r
    obtain ⟨z0, z1, z2, z3, z4, z5⟩ := cells3 HE.out.z
    go_wp2
    exact bodyPost_ret (v := .tuple #[.agg #[.int .i64 0, .int .i64 0, .string ⟨#[]⟩], .int .i64 15]) (by simp [results, Try.results8, go_sem, r0, r1, r2]) rfl ⟨rfl, below_set3 (by omega) HE.out.bel _ _ _⟩
end
end Go.Proofs.Ytlckoenkogaibaa
