/-
  Lex, plain: the text of tokens, cut again, is these tokens at other places.
-/
import Derived.Test.YtfokllgfejcehaaDoorLxQ
import Derived.Test.YtfokllgfejcehaaDoorLyA
namespace Go.Proofs.YtfokllgfejcehaaDoor
open Go.RowKit

theorem lnum_dec (u : Nat) : numL (Lib.decDigits u) = u := digVal_dec u

theorem dec_all : ∀ (u : Nat), (Lib.decDigits u).all digB = true ∧ Lib.decDigits u ≠ [] := by
  intro u
  induction u using Nat.strongRecOn with
  | ind u ih =>
    by_cases h : u < 10
    · rw [Lib.decDigits_one h]
      refine ⟨?_, by simp⟩
      simp only [List.all_cons, List.all_nil, Bool.and_true]
      rw [digB_iff, dig_toNat u h]
      omega
    · rw [dec_step (by omega), List.all_append, (ih (u / 10) (by omega)).1]
      refine ⟨?_, by simp⟩
      simp only [List.all_cons, List.all_nil, Bool.and_true, Bool.true_and]
      rw [digB_iff, dig_toNat (u % 10) (by omega)]
      omega

theorem takeWhile_all {p : UInt8 → Bool} : ∀ {l : List UInt8}, l.all p = true → l.takeWhile p = l
  | [], _ => rfl
  | c :: l, h => by
    simp only [List.all_cons, Bool.and_eq_true] at h
    simp [h.1, takeWhile_all h.2]

theorem dig_run {c : UInt8} (h : digB c = true) : runB c = true := by rw [digB_iff] at h; rw [runB_iff]; omega

theorem all_imp {p q : UInt8 → Bool} (h : ∀ c, p c = true → q c = true) {l : List UInt8} (hl : l.all p = true) : l.all q = true := List.all_eq_true.2 fun c hc => h c (List.all_eq_true.1 hl c hc)

/-- A run that is a token is that token. -/
theorem firstP_all {l : List UInt8} (h0 : l ≠ []) (h : l.all runB = true) : firstP l = runP l := by
  cases l with
  | nil => exact absurd rfl h0
  | cons c r =>
    have hc : runB c = true := by simp only [List.all_cons, Bool.and_eq_true] at h; exact h.1
    rw [firstP_run hc, takeWhile_all h]

theorem qScan_each : ∀ s : List UInt8, qScan (each 39 [39, 39] s ++ [39]) = some (s, (each 39 [39, 39] s).length + 1)
  | [] => by simp [each, qScan]
  | c :: s => by
    by_cases hc : c = 39
    · subst hc
      rw [each_cons_eq]
      simp only [List.cons_append, List.nil_append]
      rw [qScan_two, qScan_each s]
      simp
    · rw [each_cons_ne hc, List.cons_append, qScan_other hc, qScan_each s]
      simp

theorem sym_self : ∀ x ∈ symsL, firstP x = (⟨5, 0, 0, mkB x⟩, x.length) ∧ spanN blkB x = 0 ∧ x ≠ [] := by decide

/-- A token that was cut: its text begins with it, and is it. -/
structure Good (n : Nat) (t : Tk) : Prop where
  txt : ∃ x : List UInt8, tkT t = some (mkB x) ∧ firstP x = (setPl t 0, x.length) ∧ spanN blkB x = 0 ∧ x ≠ [] ∧ x.length ≤ n + 50
  ok : fits t.n = true ∧ t.s.size ≤ n + 24

theorem nonblank_run {c : UInt8} {r : List UInt8} (h : runB c = true) : spanN blkB (c :: r) = 0 := by
  refine spanN_cons_neg ?_
  cases hb : blkB c
  · rfl
  · rw [run_of_blank hb] at h; cases h

theorem good_run {w : List UInt8} (h0 : w ≠ []) (hw : w.all runB = true) (hs : (runP w).2 ≠ 0) (p : Int) : Good (runP w).2 (setPl (runP w).1 p) := by
  have hsp : ∀ x : List UInt8, x ≠ [] → x.all runB = true → spanN blkB x = 0 := fun x hx0 hx => by
    cases x with
    | nil => exact absurd rfl hx0
    | cons c r => simp only [List.all_cons, Bool.and_eq_true] at hx; exact nonblank_run hx.1
  by_cases h1 : w.all capB = true
  · rw [runP_word h1]
    exact ⟨⟨w, rfl, by rw [firstP_all h0 hw, runP_word h1]; rfl, hsp w h0 hw, h0, by simp⟩, by simp [setPl, fits], by simp [setPl, mkB_size]⟩
  have h1' : w.all capB = false := by simpa using h1
  by_cases h2 : nameB (mkB w) = true
  · rw [runP_name h1' h2]
    exact ⟨⟨w, rfl, by rw [firstP_all h0 hw, runP_name h1' h2]; rfl, hsp w h0 hw, h0, by simp⟩, by simp [setPl, fits], by simp [setPl, mkB_size]⟩
  have h2' : nameB (mkB w) = false := by simpa using h2
  by_cases h3 : w.all digB = true ∧ numL w < 9223372036854775808
  · rw [runP_num h1' h2' h3.1 h3.2]
    obtain ⟨d1, d2⟩ := dec_all (numL w)
    have hit : Lib.itoa ((numL w : Nat) : Int) = Lib.decDigits (numL w) := by
      unfold Lib.itoa
      rw [if_neg (by omega)]
      simp
    have hrun := all_imp (fun c hc => dig_run hc) d1
    refine ⟨⟨Lib.decDigits (numL w), ?_, ?_, hsp _ d2 hrun, d2, ?_⟩, ?_, ?_⟩
    · show some (mkB (Lib.itoa ((numL w : Nat) : Int))) = some (mkB (Lib.decDigits (numL w)))
      rw [hit]
    · rw [firstP_all d2 hrun, runP_num (dig_not_cap d2 d1) (dig_not_name d1) d1 (by rw [lnum_dec]; exact h3.2), lnum_dec]
      rfl
    · have := dec_len 29 (numL w) (by have : (10 : Nat) ^ 30 = 1000000000000000000000000000000 := by decide
                                      rw [this]; omega)
      omega
    · simp only [setPl]
      rw [fits_iff]
      omega
    · simp [setPl, mkB_size]
  · rw [runP, if_neg h1, if_neg h2, if_neg h3] at hs
    exact absurd rfl hs

theorem good_first {r : List UInt8} (h : r ≠ []) (h0 : (firstP r).2 ≠ 0) (p : Int) : Good (firstP r).2 (setPl (firstP r).1 p) := by
  cases r with
  | nil => exact absurd rfl h
  | cons c r =>
    cases hr : runB c
    · by_cases hq : c = 39
      · subst hq
        rw [firstP_quo] at h0 ⊢
        unfold quoP at h0 ⊢
        cases hs : qScan (39 :: r).tail with
        | none => rw [hs] at h0; simp at h0
        | some x =>
          rw [hs] at h0
          simp only at h0 ⊢
          by_cases h24 : x.1.length ≤ 24
          · rw [if_pos h24]
            have hel := each_length 39 [39, 39] x.1 (by decide)
            refine ⟨⟨39 :: (each 39 [39, 39] x.1 ++ [39]), ?_, ?_, spanN_cons_neg (by decide), by simp, by simp; omega⟩, by simp [setPl, fits], by simp [setPl, mkB_size]; omega⟩
            · show some (quoteB (mkB x.1)) = some (mkB (39 :: (each 39 [39, 39] x.1 ++ [39])))
              rw [quote_mkB, mkB_list]
              apply congrArg some
              apply ByteArray.ext
              simp [mkB]
            · rw [firstP_quo, quoP, List.tail_cons, qScan_each]
              simp only
              rw [if_pos h24]
              simp [setPl]
          · rw [if_neg h24] at h0
            exact absurd rfl h0
      · rw [firstP_sym hr hq] at h0 ⊢
        unfold symP at h0 ⊢
        cases hf : symsL.find? (fun p => p.isPrefixOf (c :: r)) with
        | none => rw [hf] at h0; simp at h0
        | some x =>
          simp only
          obtain ⟨e1, e2, e3⟩ := sym_self x (List.mem_of_find?_eq_some hf)
          exact ⟨⟨x, rfl, by rw [e1]; rfl, e2, e3, by omega⟩, by simp [setPl, fits], by simp [setPl, mkB_size]⟩
    · rw [firstP_run hr] at h0 ⊢
      refine good_run ?_ (all_takeWhile _ _) h0 p
      simp [hr]

/-- The same token at another place. -/
def Like (x y : Tk) : Prop := x.kind = y.kind ∧ x.n = y.n ∧ x.s = y.s

def txtL (t : Tk) : List UInt8 := ((tkT t).map (·.data.toList)).getD []

/-- What a text that is cut has. -/
theorem cut_good : ∀ (f p : Nat) (r : List UInt8) (A : List Tk), r.length < f → cutF f p r = (A, none) →
    ∃ (G : List Tk) (e : Nat), A = G ++ [⟨0, 0, e, mkB []⟩] ∧ (∀ t ∈ G, Good r.length t) ∧ G.length ≤ r.length ∧ (G.map fun t => (txtL t).length).sum ≤ r.length + 50 * G.length
  | 0, _, _, _, hf, _ => by omega
  | f + 1, p, r, A, hf, hA => by
    by_cases h : r = []
    · subst h
      rw [cutF_end] at hA
      exact ⟨[], p, by rw [← (Prod.mk.inj hA).1]; rfl, by simp, by simp, by simp⟩
    by_cases h0 : (firstP r).2 = 0
    · rw [cutF_bad h h0] at hA
      simp at hA
    · have hd := dropF_lt h h0
      have hg := good_first h h0 (p : Int)
      have hfs := firstP_size r
      rw [cutF_step h h0] at hA
      obtain ⟨eA, eN⟩ := Prod.mk.inj hA
      have hl : ((r.drop (firstP r).2).drop (spanN blkB (r.drop (firstP r).2))).length ≤ r.length - (firstP r).2 := by rw [List.length_drop, List.length_drop]; omega
      obtain ⟨G, e, h1, h2, h3, h4⟩ := cut_good f _ _ _ (by rw [List.length_drop] at hd; omega) (Prod.ext rfl eN : cutF f (p + (firstP r).2 + spanN blkB (r.drop (firstP r).2)) ((r.drop (firstP r).2).drop (spanN blkB (r.drop (firstP r).2))) = (_, none))
      refine ⟨setPl (firstP r).1 p :: G, e, by rw [← eA]; exact congrArg (setPl (firstP r).1 p :: ·) h1, ?_, ?_, ?_⟩
      · intro t ht
        rcases List.mem_cons.1 ht with rfl | ht
        · obtain ⟨⟨x, g1, g2, g3, g4, g5⟩, g6, g7⟩ := hg
          exact ⟨⟨x, g1, g2, g3, g4, by omega⟩, g6, by omega⟩
        · obtain ⟨⟨x, g1, g2, g3, g4, g5⟩, g6, g7⟩ := h2 t ht
          exact ⟨⟨x, g1, g2, g3, g4, by omega⟩, g6, by omega⟩
      · simp only [List.length_cons]; omega
      · obtain ⟨⟨x, g1, g2, g3, g4, g5⟩, -, -⟩ := hg
        have e1 : txtL (setPl (firstP r).1 p) = x := by rw [txtL, g1]; simp [mkB]
        simp only [List.map_cons, List.sum_cons, List.length_cons, e1]
        omega

/-- One token's text. -/
theorem tok_cut {n : Nat} {t : Tk} (h : Good n t) : ∃ e : Nat, cutT (txtL t) = ([setPl t 0, ⟨0, 0, e, mkB []⟩], none) ∧ txtL t ≠ [] := by
  obtain ⟨⟨x, g1, g2, g3, g4, g5⟩, -⟩ := h
  have e1 : txtL t = x := by rw [txtL, g1]; simp [mkB]
  have hx : x.length ≠ 0 := fun e => g4 (List.length_eq_zero_iff.1 e)
  obtain ⟨k, hk⟩ : ∃ k, x.length = k + 1 := ⟨x.length - 1, by omega⟩
  refine ⟨x.length, ?_, by rw [e1]; exact g4⟩
  rw [e1, cutT, g3, List.drop_zero, hk, cutF_step g4 (by rw [g2]; exact hx), g2]
  simp only [List.drop_length, spanN_nil, List.drop_nil, cutF_end, Nat.zero_add, Nat.add_zero]
  simp [setPl]
  omega

def Likes (A B : List Tk) : Prop := A.length = B.length ∧ ∀ (j : Nat) (x y : Tk), A[j]? = some x → B[j]? = some y → Like x y

theorem Likes.cons {x y : Tk} {A B : List Tk} (h : Like x y) (hs : Likes A B) : Likes (x :: A) (y :: B) := by
  refine ⟨by simp [hs.1], fun j a b ha hb => ?_⟩
  cases j with
  | zero => simp at ha hb; subst ha hb; exact h
  | succ j => exact hs.2 j a b (by simpa using ha) (by simpa using hb)

theorem Likes.shift {A B : List Tk} (d : Nat) (h : Likes A B) : Likes A (B.map (shTk d)) := by
  refine ⟨by simp [h.1], fun j a b ha hb => ?_⟩
  rw [List.getElem?_map] at hb
  obtain ⟨y, hy, rfl⟩ := Option.map_eq_some_iff.1 hb
  exact h.2 j a y ha hy

/-- The texts of tokens, with blanks between. -/
theorem toks_cut {n : Nat} : ∀ (G : List Tk), G ≠ [] → (∀ t ∈ G, Good n t) → ∃ B, cutT (Lib.join (G.map txtL) [32]) = (B, none) ∧ Likes (G ++ [⟨0, 0, 0, mkB []⟩]) B
  | [], h, _ => absurd rfl h
  | [t], _, hg => by
    obtain ⟨e, h1, -⟩ := tok_cut (hg t List.mem_cons_self)
    refine ⟨_, by rw [List.map_cons, List.map_nil, Lib.join_one]; exact h1, ?_⟩
    exact Likes.cons ⟨rfl, rfl, rfl⟩ (Likes.cons ⟨rfl, rfl, rfl⟩ ⟨rfl, fun j x y hx => by simp at hx⟩)
  | t :: u :: G, _, hg => by
    obtain ⟨e, h1, -⟩ := tok_cut (hg t List.mem_cons_self)
    obtain ⟨B, h2, h3⟩ := toks_cut (u :: G) (by simp) fun x hx => hg x (List.mem_cons_of_mem _ hx)
    have hj : Lib.join ((t :: u :: G).map txtL) [32] = txtL t ++ 32 :: Lib.join ((u :: G).map txtL) [32] := by
      rw [List.map_cons, Lib.join_cons, List.map_cons, Lib.join_cons]
      simp [Lib.joinTail]
    obtain ⟨-, h4⟩ := cutT_parts (z := 32) (by decide) (t := Lib.join ((u :: G).map txtL) [32]) h1
    refine ⟨setPl t 0 :: B.map (shTk ((txtL t).length + 1)), ?_, ?_⟩
    · rw [hj, h4, h2]
      simp [glue, shift]
    · exact Likes.cons ⟨rfl, rfl, rfl⟩ (h3.shift _)

theorem lead_blanks {c : UInt8} (hc : blkB c = true) (f p : Nat) (l : List UInt8) : cutB f p (c :: l) = cutB f (p + 1) l := by
  unfold cutB
  rw [spanN_cons_pos hc, List.drop_succ_cons]
  congr 1
  omega

/-- The law: what lies around changes nothing. -/
theorem cut_again {n : Nat} {G : List Tk} (hg : ∀ t ∈ G, Good n t) : ∃ B, cutT (10 :: 32 :: (Lib.join (G.map txtL) [32] ++ [9])) = (B, none) ∧ Likes (G ++ [⟨0, 0, 0, mkB []⟩]) B := by
  by_cases h : G = []
  · subst h
    refine ⟨[⟨0, 0, 3, mkB []⟩], by kernel_rfl, rfl, fun j x y hx hy => ?_⟩
    cases j with
    | zero => simp at hx hy; subst hx hy; exact ⟨rfl, rfl, rfl⟩
    | succ j => simp at hx
  · obtain ⟨B, h1, h2⟩ := toks_cut G h hg
    have hB : B ≠ [] := fun e => by rw [e] at h2; have := h2.1; simp at this
    have e0 : cutT [] = ([⟨0, 0, ((0 : Nat) : Int), mkB []⟩], none) := rfl
    obtain ⟨-, h3⟩ := cutT_parts (z := 9) (by decide) (t := []) h1
    rw [e0] at h3
    generalize hJ : Lib.join (G.map txtL) [32] = J at *
    have h4 : cutT (10 :: 32 :: (J ++ [9])) = shift 2 (cutT (J ++ [9])) := by
      rw [cutT_B, lead_blanks (by decide), lead_blanks (by decide), cutT_B, ← cutB_shift]
      exact cutB_fuel (by simp) (by simp)
    rw [h3] at h4
    refine ⟨_, by rw [h4]; simp [glue, shift]; rfl, ?_⟩
    have h5 : Likes (G ++ [⟨0, 0, 0, mkB []⟩]) (B.dropLast ++ [⟨0, 0, ((0 + (J.length + 1) : Nat) : Int), mkB []⟩]) := by
      have hl := h2.1
      refine ⟨by rw [List.length_append, List.length_append, List.length_dropLast] at *; simp at hl ⊢; omega, fun j x y hx hy => ?_⟩
      have hlB : B.length = G.length + 1 := by simpa using hl.symm
      by_cases hj : j < G.length
      · rw [List.getElem?_append_left (by rw [List.length_dropLast]; omega), List.getElem?_dropLast, if_pos (by omega)] at hy
        exact h2.2 j x y hx hy
      · have hje : j = G.length := by have := (List.getElem?_eq_some_iff.1 hx).1; simp at this; omega
        subst hje
        rw [List.getElem?_append_right (Nat.le_refl _)] at hx
        rw [List.getElem?_append_right (by rw [List.length_dropLast]; omega), List.length_dropLast, hlB] at hy
        simp at hx hy
        subst hx hy
        exact ⟨rfl, rfl, rfl⟩
    have h6 := h5.shift 2
    simpa [shTk] using h6
end Go.Proofs.YtfokllgfejcehaaDoor
