/-
  Lex, plain: two texts with a blank between.
-/
import Derived.Test.YtfokllgfejcehaaDoorLxF
import Derived.Test.YtfokllgfejcehaaDoorLxP
namespace Go.Proofs.YtfokllgfejcehaaDoor

/-- Cut, blanks skipped first. -/
def cutB (f p : Nat) (l : List UInt8) : List Tk × Option Nat := cutF f (p + spanN blkB l) (l.drop (spanN blkB l))

theorem cutT_B (l : List UInt8) : cutT l = cutB (l.length + 1) 0 l := by rw [cutB, Nat.zero_add]; rfl

theorem cutF_stepB {f p : Nat} {r : List UInt8} (h : r ≠ []) (h0 : (firstP r).2 ≠ 0) : cutF (f + 1) p r = (setPl (firstP r).1 p :: (cutB f (p + (firstP r).2) (r.drop (firstP r).2)).1, (cutB f (p + (firstP r).2) (r.drop (firstP r).2)).2) := cutF_step h h0

theorem dropF_lt {r : List UInt8} (h : r ≠ []) (h0 : (firstP r).2 ≠ 0) : (r.drop (firstP r).2).length < r.length := by
  rw [List.length_drop]
  have : r.length ≠ 0 := fun e => h (List.length_eq_zero_iff.1 e)
  omega

theorem cutF_fuel : ∀ (n f g p : Nat) (r : List UInt8), r.length ≤ n → r.length < f → r.length < g → cutF f p r = cutF g p r := by
  intro n
  induction n with
  | zero =>
    intro f g p r hn hf hg
    obtain ⟨f', rfl⟩ : ∃ f', f = f' + 1 := ⟨f - 1, by omega⟩
    obtain ⟨g', rfl⟩ : ∃ g', g = g' + 1 := ⟨g - 1, by omega⟩
    have : r = [] := List.length_eq_zero_iff.1 (by omega)
    subst this
    rw [cutF_end, cutF_end]
  | succ n ih =>
    intro f g p r hn hf hg
    obtain ⟨f', rfl⟩ : ∃ f', f = f' + 1 := ⟨f - 1, by omega⟩
    obtain ⟨g', rfl⟩ : ∃ g', g = g' + 1 := ⟨g - 1, by omega⟩
    by_cases h : r = []
    · subst h; rw [cutF_end, cutF_end]
    by_cases h0 : (firstP r).2 = 0
    · rw [cutF_bad h h0, cutF_bad h h0]
    · have hl := dropF_lt h h0
      have hd : ((r.drop (firstP r).2).drop (spanN blkB (r.drop (firstP r).2))).length ≤ (r.drop (firstP r).2).length := by rw [List.length_drop]; omega
      rw [cutF_stepB h h0, cutF_stepB h h0]
      have e : cutB f' (p + (firstP r).2) (r.drop (firstP r).2) = cutB g' (p + (firstP r).2) (r.drop (firstP r).2) := ih _ _ _ _ (by omega) (by omega) (by omega)
      rw [e]

theorem cutB_fuel {f g p : Nat} {l : List UInt8} (hf : l.length < f) (hg : l.length < g) : cutB f p l = cutB g p l := by
  have : (l.drop (spanN blkB l)).length ≤ l.length := by rw [List.length_drop]; omega
  exact cutF_fuel _ _ _ _ _ (Nat.le_refl _) (by omega) (by omega)

def shTk (d : Nat) (t : Tk) : Tk := ⟨t.kind, t.n, t.pl + d, t.s⟩
def shift (d : Nat) (x : List Tk × Option Nat) : List Tk × Option Nat := (x.1.map (shTk d), x.2.map (· + d))

theorem cutF_shift (d : Nat) : ∀ (f p : Nat) (r : List UInt8), cutF f (p + d) r = shift d (cutF f p r)
  | 0, _, _ => rfl
  | f + 1, p, r => by
    by_cases h : r = []
    · subst h; rw [cutF_end, cutF_end]; simp [shift, shTk]
    by_cases h0 : (firstP r).2 = 0
    · rw [cutF_bad h h0, cutF_bad h h0]; simp [shift]
    · rw [cutF_step h h0, cutF_step h h0]
      have e := cutF_shift d f (p + (firstP r).2 + spanN blkB (r.drop (firstP r).2)) ((r.drop (firstP r).2).drop (spanN blkB (r.drop (firstP r).2)))
      rw [show p + (firstP r).2 + spanN blkB (r.drop (firstP r).2) + d = p + d + (firstP r).2 + spanN blkB (r.drop (firstP r).2) by omega] at e
      rw [e]
      simp [shift, shTk, setPl]

theorem cutB_shift (d f p : Nat) (l : List UInt8) : cutB f (p + d) l = shift d (cutB f p l) := by
  unfold cutB
  rw [show p + d + spanN blkB l = p + spanN blkB l + d by omega, cutF_shift]

theorem run_of_blank {z : UInt8} (hz : blkB z = true) : runB z = false := by
  rw [Bool.eq_false_iff, ne_eq, runB_iff]
  rw [blkB_iff] at hz
  omega
theorem quo_of_blank {z : UInt8} (hz : blkB z = true) : z ≠ 39 := by
  rintro rfl
  exact absurd hz (by decide)

theorem takeWhile_blank {p : UInt8 → Bool} {z : UInt8} (h : p z = false) : ∀ (r t : List UInt8), (r ++ z :: t).takeWhile p = r.takeWhile p
  | [], t => by simp [h]
  | c :: r, t => by
    cases hc : p c
    · simp [hc]
    · simp [hc, takeWhile_blank h r t]

theorem span_blanks {z : UInt8} (hz : blkB z = true) : ∀ (l t : List UInt8), l.all blkB = true → spanN blkB (l ++ z :: t) = l.length + 1 + spanN blkB t
  | [], t, _ => by rw [List.nil_append, spanN_cons_pos hz]; simp; omega
  | c :: l, t, h => by
    simp only [List.all_cons, Bool.and_eq_true] at h
    rw [List.cons_append, spanN_cons_pos h.1, span_blanks hz l t h.2]
    simp
    omega

theorem span_left : ∀ (l u : List UInt8), l.drop (spanN blkB l) ≠ [] → spanN blkB (l ++ u) = spanN blkB l
  | [], u, h => by simp [spanN] at h
  | c :: l, u, h => by
    cases hc : blkB c
    · rw [List.cons_append, spanN_cons_neg hc, spanN_cons_neg hc]
    · rw [spanN_cons_pos hc] at h
      rw [List.cons_append, spanN_cons_pos hc, spanN_cons_pos hc, span_left l u (by simpa using h)]

theorem qScan_blank {z : UInt8} (hz : z ≠ 39) : ∀ (l t : List UInt8) (x : List UInt8 × Nat), qScan l = some x → qScan (l ++ z :: t) = some x
  | [], _, x, h => by simp [qScan] at h
  | [c], t, x, h => by
    by_cases hc : c = 39
    · subst hc
      rw [qScan_stop (by simp)] at h
      rw [List.singleton_append, qScan_stop (by simpa using hz)]
      exact h
    · rw [qScan_other hc] at h
      simp [qScan] at h
  | c :: d :: r, t, x, h => by
    by_cases hc : c = 39
    · subst hc
      by_cases hd : d = 39
      · subst hd
        rw [qScan_two] at h
        obtain ⟨y, hy, rfl⟩ := Option.map_eq_some_iff.1 h
        rw [List.cons_append, List.cons_append, qScan_two, qScan_blank hz r t y hy]
        rfl
      · rw [qScan_stop (by simpa using hd)] at h
        rw [List.cons_append, List.cons_append, qScan_stop (by simpa using hd)]
        exact h
    · rw [qScan_other hc] at h
      obtain ⟨y, hy, rfl⟩ := Option.map_eq_some_iff.1 h
      rw [List.cons_append, qScan_other hc, qScan_blank hz (d :: r) t y hy]
      rfl

theorem prefix_blank {x : List UInt8} {z : UInt8} (h : ∀ c ∈ x, c ≠ z) : ∀ (r t : List UInt8), x.isPrefixOf (r ++ z :: t) = x.isPrefixOf r := by
  induction x with
  | nil => intro r t; simp
  | cons c x ih =>
    intro r t
    cases r with
    | nil =>
      have hc : ¬ c = z := h c List.mem_cons_self
      simp [List.isPrefixOf, hc]
    | cons d r =>
      rw [List.cons_append, List.isPrefixOf, List.isPrefixOf, ih (fun e he => h e (List.mem_cons_of_mem _ he)) r t]

theorem syms_ok : ∀ x ∈ symsL, ∀ c ∈ x, blkB c = false := by decide

theorem find_congr {α : Type} {p q : α → Bool} : ∀ {l : List α}, (∀ x ∈ l, p x = q x) → l.find? p = l.find? q
  | [], _ => rfl
  | x :: l, h => by
    rw [List.find?_cons, List.find?_cons, h x List.mem_cons_self, find_congr fun y hy => h y (List.mem_cons_of_mem _ hy)]

theorem symP_blank {z : UInt8} (hz : blkB z = true) (r t : List UInt8) : symP (r ++ z :: t) = symP r := by
  unfold symP
  rw [find_congr (q := fun p => p.isPrefixOf r) fun x hx => prefix_blank (fun c hc e => by have := syms_ok x hx c hc; rw [e, hz] at this; cases this) r t]

theorem firstP_blank {z : UInt8} (hz : blkB z = true) {r : List UInt8} (h : r ≠ []) (h0 : (firstP r).2 ≠ 0) (t : List UInt8) : firstP (r ++ z :: t) = firstP r := by
  cases r with
  | nil => exact absurd rfl h
  | cons c r =>
    cases hr : runB c
    · by_cases hq : c = 39
      · subst hq
        rw [firstP_quo] at h0
        rw [List.cons_append, firstP_quo, firstP_quo]
        unfold quoP at h0 ⊢
        simp only [List.tail_cons] at h0 ⊢
        cases hs : qScan r with
        | none => rw [hs] at h0; simp at h0
        | some x => rw [qScan_blank (quo_of_blank hz) r t x hs]
      · rw [List.cons_append, firstP_sym hr hq, firstP_sym hr hq, ← List.cons_append, symP_blank hz]
    · rw [List.cons_append, firstP_run hr, firstP_run hr, ← List.cons_append, takeWhile_blank (run_of_blank hz)]

theorem glue_cons (t : Tk) (a : List Tk) (x : List Tk × Option Nat) : glue (t :: a) x = (t :: (glue a x).1, (glue a x).2) := by simp [glue]

/-- Two texts with a blank between. -/
theorem cut_parts {z : UInt8} (hz : blkB z = true) (t : List UInt8) (g' : Nat) (hg' : t.length < g') : ∀ (n f p : Nat) (l : List UInt8) (A : List Tk), l.length ≤ n → l.length < f → cutB f p l = (A, none) → ∀ g, (l ++ z :: t).length < g → A ≠ [] ∧ cutB g p (l ++ z :: t) = glue A.dropLast (cutB g' (p + l.length + 1) t) := by
  intro n
  induction n with
  | zero =>
    intro f p l A hn hf hA g hg
    have : l = [] := List.length_eq_zero_iff.1 (by omega)
    subst this
    obtain ⟨f', rfl⟩ : ∃ f', f = f' + 1 := ⟨f - 1, by omega⟩
    have e : A = [⟨0, 0, (p : Int), mkB []⟩] := by
      have : cutB (f' + 1) p [] = ([⟨0, 0, (p : Int), mkB []⟩], none) := by simp [cutB, spanN_nil, cutF_end]
      rw [this] at hA
      exact (Prod.mk.inj hA).1.symm
    subst e
    refine ⟨by simp, ?_⟩
    have : cutB g p ([] ++ z :: t) = cutB g (p + 0 + 1) t := by
      unfold cutB
      rw [span_blanks hz [] t rfl]
      simp only [List.nil_append, List.length_nil]
      rw [show 0 + 1 + spanN blkB t = spanN blkB t + 1 by omega, List.drop_succ_cons]
      congr 1
      omega
    rw [this, List.length_nil, cutB_fuel (g := g') (by simp at hg; omega) hg']
    simp [glue]
  | succ n ih =>
    intro f p l A hn hf hA g hg
    obtain ⟨f', rfl⟩ : ∃ f', f = f' + 1 := ⟨f - 1, by omega⟩
    by_cases hr : l.drop (spanN blkB l) = []
    · have hall : l.all blkB = true := by
        have h1 := congrArg List.length hr
        rw [List.length_drop] at h1
        have h2 := spanN_le blkB l
        exact span_all.1 (by simp at h1; omega)
      have hsp : spanN blkB l = l.length := span_all.2 hall
      have e : A = [⟨0, 0, ((p + l.length : Nat) : Int), mkB []⟩] := by
        have : cutB (f' + 1) p l = ([⟨0, 0, ((p + l.length : Nat) : Int), mkB []⟩], none) := by rw [cutB, hr, cutF_end, hsp]
        rw [this] at hA
        exact (Prod.mk.inj hA).1.symm
      subst e
      refine ⟨by simp, ?_⟩
      have : cutB g p (l ++ z :: t) = cutB g (p + l.length + 1) t := by
        unfold cutB
        rw [span_blanks hz l t hall, List.drop_append]
        rw [List.drop_eq_nil_of_le (by omega), List.nil_append, show l.length + 1 + spanN blkB t - l.length = spanN blkB t + 1 by omega, List.drop_succ_cons]
        congr 1
        omega
      rw [this, cutB_fuel (g := g') (by simp at hg; omega) hg']
      simp [glue]
    · have hne := hr
      generalize hrr : l.drop (spanN blkB l) = r at *
      have hrl : r.length = l.length - spanN blkB l := by rw [← hrr, List.length_drop]
      have hspl := spanN_le blkB l
      have h0 : (firstP r).2 ≠ 0 := fun h0 => by
        rw [cutB, hrr, cutF_bad hne h0] at hA
        simp at hA
      rw [cutB, hrr, cutF_stepB hne h0] at hA
      obtain ⟨eA, eN⟩ := Prod.mk.inj hA
      have hd := dropF_lt hne h0
      have hfs := firstP_size r
      have hx : cutB f' (p + spanN blkB l + (firstP r).2) (r.drop (firstP r).2) = ((cutB f' (p + spanN blkB l + (firstP r).2) (r.drop (firstP r).2)).1, none) := Prod.ext rfl eN
      obtain ⟨g2, rfl⟩ : ∃ g2, g = g2 + 1 := ⟨g - 1, by omega⟩
      have hlen2 : (r.drop (firstP r).2 ++ z :: t).length < g2 := by
        simp only [List.length_append, List.length_cons] at hg ⊢
        omega
      obtain ⟨hA2, hB2⟩ := ih f' _ _ _ (by omega) (by omega) hx g2 hlen2
      subst eA
      refine ⟨by simp, ?_⟩
      rw [List.dropLast_cons_of_ne_nil hA2, glue_cons]
      have e1 : spanN blkB (l ++ z :: t) = spanN blkB l := span_left l _ (by rw [hrr]; exact hne)
      have e2 : (l ++ z :: t).drop (spanN blkB l) = r ++ z :: t := by rw [List.drop_append_of_le_length hspl, hrr]
      rw [cutB, e1, e2, cutF_stepB (by simp) (by rw [firstP_blank hz hne h0]; exact h0), firstP_blank hz hne h0, List.drop_append_of_le_length hfs, hB2]
      rw [show p + spanN blkB l + (firstP r).2 + (r.drop (firstP r).2).length + 1 = p + l.length + 1 by rw [List.length_drop]; omega]

theorem cutT_parts {z : UInt8} (hz : blkB z = true) {s t : List UInt8} {A : List Tk} (h : cutT s = (A, none)) : A ≠ [] ∧ cutT (s ++ z :: t) = glue A.dropLast (shift (s.length + 1) (cutT t)) := by
  rw [cutT_B] at h
  obtain ⟨h1, h2⟩ := cut_parts hz t (t.length + 1) (by omega) s.length (s.length + 1) 0 s A (Nat.le_refl _) (by omega) h ((s ++ z :: t).length + 1) (by omega)
  refine ⟨h1, ?_⟩
  rw [cutT_B, h2, cutT_B, ← cutB_shift]
  congr 2
end Go.Proofs.YtfokllgfejcehaaDoor
