/-
  From what an argument of steps reads as to how the steps lie in memory; its bulk bounds their number.
-/
import Derived.Test.YtlkodnhkhhgimaaRows
import Derived.Test.YtlkodnhkhhgimaaRunsA
import Derived.Deep.Slices
import Derived.ProofKit
import Derived.OpenShut
namespace Go.Proofs.Ytlkodnhkhhgimaa
open Go.RowKit Go.Deep

theorem Try.cellsStep : Try.prog.cellsOf 51 = 5 := by kernel_rfl
theorem Try.cellsInt : Try.prog.cellsOf 3 = 1 := by kernel_rfl
theorem Try.cellsSteps : Try.prog.cellsOf 22 = 1 := by kernel_rfl

theorem bulk_le {H : Type} (D : Nat → DataW H) : ∀ n i, i < n → Rows.uptoBulk (D i) ≤ Rows.uptoBulkAll ((List.range n).map D) := by
  intro n
  induction n with
  | zero => intro i hi; omega
  | succ n ih =>
    intro i hi
    have happ : ∀ a b : List (DataW H), Rows.uptoBulkAll (a ++ b) = Rows.uptoBulkAll a + Rows.uptoBulkAll b := by
      intro a b
      induction a with
      | nil => simp [Rows.uptoBulkAll]
      | cons x a ih => simp [Rows.uptoBulkAll, ih]; omega
    rw [List.range_succ, List.map_append, happ]
    by_cases e : i = n
    · subst e; simp [Rows.uptoBulkAll]
    · have := ih i (by omega); omega

theorem bulk_sum {H : Type} (D : Nat → DataW H) (S : Nat → Stp) : ∀ n, (∀ i, i < n → 2 * szS (S i) ≤ Rows.uptoBulk (D i)) → 2 * szL ((List.range n).map S) ≤ Rows.uptoBulkAll ((List.range n).map D) := by
  intro n
  induction n with
  | zero => intro _; simp [szL]
  | succ n ih =>
    intro h
    have happ : ∀ a b : List (DataW H), Rows.uptoBulkAll (a ++ b) = Rows.uptoBulkAll a + Rows.uptoBulkAll b := by
      intro a b
      induction a with
      | nil => simp [Rows.uptoBulkAll]
      | cons x a ih => simp [Rows.uptoBulkAll, ih]; omega
    rw [List.range_succ, List.map_append, List.map_append, happ, szL_append]
    have h1 := ih fun i hi => h i (by omega)
    have h2 := h n (by omega)
    simp [szL, Rows.uptoBulkAll]
    omega

theorem steps_at (w : World) (b o : Nat) (S : Nat → Stp) : ∀ n k, (∀ i, i < n → StepAt w b (o + 5 * i) (S i)) → k ≤ n → StepsAt w (some ⟨b, o + 5 * (n - k), none⟩) ((List.range k).map fun j => S (n - k + j)) := by
  intro n k
  induction k with
  | zero => intro _ _; simp [StepsAt]
  | succ k ih =>
    intro h hk
    rw [List.range_succ_eq_map, List.map_cons, List.map_map]
    refine ⟨b, o + 5 * (n - (k + 1)), rfl, by simpa using h (n - (k + 1)) (by omega), ?_⟩
    have := ih h (by omega)
    rw [show o + 5 * (n - (k + 1)) + 5 = o + 5 * (n - k) by omega]
    have e : ((fun j => S (n - (k + 1) + j)) ∘ Nat.succ) = fun j => S (n - k + j) := by
      funext j
      simp only [Function.comp]
      congr 1
      omega
    rw [e]
    exact this

theorem one_of_take {cs : List Value} {j : Nat} {v : Value} (h : (cs.drop j).take 1 = [v]) : cs[j]? = some v := by
  have := congrArg (·[0]?) h
  simpa using this

theorem read_steps {H : Type} {enc : TypeId × Value → H} {w : World} : ∀ (B : Nat) (d : DataW H), Rows.uptoBulk d ≤ B → ∀ (fuel : Nat) (cs : List Value) (p : List MemPlace), DataW.trod enc Try.prog w 0 (fun _ => true) true fuel 22 cs = some (d, p) →
    ∃ x c, ∃ l : List Stp, cs = [.slice x l.length c] ∧ l.length ≤ c ∧ StepsAt w x l ∧ 2 * szL l ≤ Rows.uptoBulk d := by
  intro B
  induction B with
  | zero =>
    intro d hd fuel cs p h
    rcases open_slice Try.underlying22 h with ⟨rfl, hx⟩ | ⟨a, len, cap, m, n, D, Pl, rfl, hb, hl, hm, hmm, hx, hel⟩
    · exact ⟨none, 0, [], rfl, Nat.le_refl _, trivial, by simp [szL]⟩
    · simp only [Prod.mk.injEq] at hx
      rw [hx.1] at hd
      simp [Rows.uptoBulk] at hd
  | succ B ih =>
    intro d hd fuel cs p h
    rcases open_slice Try.underlying22 h with ⟨rfl, hx⟩ | ⟨a, len, cap, m, n, D, Pl, rfl, hb, hl, hm, hmm, hx, hel⟩
    · exact ⟨none, 0, [], rfl, Nat.le_refl _, trivial, by simp [szL]⟩
    · simp only [Prod.mk.injEq] at hx
      obtain ⟨rfl, -⟩ := hx
      simp only [if_true] at hmm
      subst hmm
      simp only [Rows.uptoBulk] at hd
      have key : ∀ i, i < len → ∃ st : Stp, 2 * szS st ≤ Rows.uptoBulk (D i) ∧ ∀ b o, a = ⟨b, o, none⟩ → StepAt w b (o + 5 * i) st := by
        intro i hi
        obtain ⟨cs', hc, ht⟩ := hel i (by omega)
        rw [Try.cellsStep] at hc
        obtain ⟨-, hlen, hcell⟩ := World.cells?_some hc
        obtain ⟨xs, n', -, hxs, -, hxl, hf⟩ := DataW.trod_struct Try.underlying51 ht
        simp only [Prod.mk.injEq] at hxs
        match xs, hxl with
        | [y0, y1, y2, y3, y4], _ =>
          have f0 := hf 0 _ rfl
          have f1 := hf 1 _ rfl
          have f2 := hf 2 _ rfl
          have f3 := hf 3 _ rfl
          have f4 := hf 4 _ rfl
          simp only [List.getElem?_cons_zero, List.getElem?_cons_succ] at f0 f1 f2 f3 f4
          obtain ⟨k0, g0, e0, -⟩ := DataW.trod_int Try.underlying3 f0
          obtain ⟨k1, g1, -, -⟩ := DataW.trod_int Try.underlying3 f1
          obtain ⟨k2, g2, -, -⟩ := DataW.trod_int Try.underlying3 f2
          have hD : D i = .agg [y0.1, y1.1, y2.1, y3.1, y4.1] := hxs.1
          have hbi := bulk_le D len i hi
          rw [hD] at hbi
          simp only [Rows.uptoBulk, Rows.uptoBulkAll] at hbi
          obtain ⟨x3, c3, l3, g3, h3, a3, z3⟩ := ih y3.1 (by omega) n' _ y3.2 f3
          obtain ⟨x4, c4, l4, g4, h4, a4, z4⟩ := ih y4.1 (by omega) n' _ y4.2 f4
          refine ⟨.mk k0 k1 k2 l3 l4, ?_, ?_⟩
          · rw [hD]
            have hb0 : Rows.uptoBulk y0.1 = 1 := by rw [e0]; rfl
            simp only [szS, Rows.uptoBulk, Rows.uptoBulkAll]
            omega
          · rintro b o rfl
            have hadd : ∀ j, ((⟨b, o, none⟩ : Addr).add (i * 5)).add j = ⟨b, o + 5 * i + j, none⟩ := fun j => by
              rw [add_add]
              unfold Addr.add
              split <;> simp <;> omega
            have cc : ∀ j v, cs'[j]? = some v → w.cell? ⟨b, o + 5 * i + j, none⟩ = some v := fun j v hv => by
              have hj : j < 5 := by rw [← hlen]; exact (List.getElem?_eq_some_iff.1 hv).1
              have := hcell j hj
              rw [hadd] at this
              rw [this, hv]
            exact ⟨cc 0 _ (one_of_take g0), cc 1 _ (one_of_take g1), cc 2 _ (one_of_take g2), ⟨x3, c3, h3, cc 3 _ (one_of_take g3), a3⟩, ⟨x4, c4, h4, cc 4 _ (one_of_take g4), a4⟩⟩
      have hinh : Inhabited Stp := ⟨.mk 0 0 0 [] []⟩
      obtain ⟨S, hS⟩ := choose_lt key
      refine ⟨some a, m, (List.range len).map S, by simp, by simpa using hl, ?_, ?_⟩
      · cases len with
        | zero => simp [StepsAt]
        | succ len =>
          have hsp : a.spot = none := by
            obtain ⟨cs', hc, -⟩ := hel 0 (by omega)
            rw [Try.cellsStep] at hc
            obtain ⟨-, hlen, hcell⟩ := World.cells?_some hc
            have := hcell 0 (by decide)
            rw [List.getElem?_eq_getElem (by omega)] at this
            have := World.cell?_spot this
            simpa [Addr.add] using this
          obtain ⟨b, o, sp⟩ := a
          simp only at hsp
          subst hsp
          have := steps_at w b o S (len + 1) (len + 1) (fun i hi => (hS i hi).2 b o rfl) (Nat.le_refl _)
          simpa using this
      · have := bulk_sum D S len fun i hi => (hS i hi).1
        simp only [Rows.uptoBulk]
        omega

end Go.Proofs.Ytlkodnhkhhgimaa
