/-
  Undo: the document's list of entries and savepoints, and what of it a log has (plain).
-/
import Derived.Test.YtdiagnmkfnhnjaaUdF
namespace Go.Proofs.Ytdiagnmkfnhnjaa
open Go.RowKit Rw

/-- An item of the document's log. -/
structure DI where
  b : Bool
  nm : ByteArray
  p : PE
deriving Inhabited

def diC (x : DI) : List Value := [.bool x.b, .string x.nm, .int .i64 x.p.1.k, .int .i64 x.p.1.id, .string x.p.1.t, .slice x.p.1.oa x.p.1.ol x.p.1.oc, .slice x.p.1.na x.p.1.nl x.p.1.nc]
theorem diC_len (x : DI) : (diC x).length = 7 := rfl
theorem diC_one (x : DI) : ∀ u ∈ diC x, u.oneCell' = true := by
  intro u hu
  simp [diC] at hu
  rcases hu with rfl | rfl | rfl | rfl | rfl | rfl | rfl <;> rfl

/-- Its entries. -/
def ens : List DI → List PE
  | [] => []
  | x :: D => if x.b then ens D else x.p :: ens D

/-- Its savepoints, each with how many entries stand ahead of it. -/
def svp : Nat → List DI → List Sv
  | _, [] => []
  | n, x :: D => if x.b then (x.nm, n) :: svp n D else svp (n + 1) D

theorem ens_append : ∀ (D E : List DI), ens (D ++ E) = ens D ++ ens E
  | [], _ => rfl
  | x :: D, E => by
    rw [List.cons_append]
    cases h : x.b
    · simp only [ens, h, Bool.false_eq_true, if_false]; rw [ens_append D E]; rfl
    · simp only [ens, h, if_true]; exact ens_append D E

theorem svp_append : ∀ (D E : List DI) (n : Nat), svp n (D ++ E) = svp n D ++ svp (n + (ens D).length) E
  | [], _, _ => rfl
  | x :: D, E, n => by
    rw [List.cons_append]
    cases h : x.b
    · simp only [ens, svp, h, Bool.false_eq_true, if_false, List.length_cons]
      rw [svp_append D E (n + 1), show n + 1 + (ens D).length = n + ((ens D).length + 1) by omega]
    · simp only [ens, svp, h, if_true]
      rw [svp_append D E n]; rfl

theorem svp_le : ∀ (D : List DI) (n : Nat) (x : Sv), x ∈ svp n D → n ≤ x.2 ∧ x.2 ≤ n + (ens D).length
  | [], _, _, h => by cases h
  | y :: D, n, x, h => by
    cases hy : y.b
    · simp only [ens, svp, hy, Bool.false_eq_true, if_false, List.length_cons] at h ⊢
      have := svp_le D (n + 1) x h
      omega
    · simp only [ens, svp, hy, if_true] at h ⊢
      rcases List.mem_cons.1 h with rfl | h
      · exact ⟨Nat.le_refl _, Nat.le_add_right _ _⟩
      · exact svp_le D n x h

theorem svp_mem : ∀ (D : List DI) (n : Nat) (x : Sv), x ∈ svp n D → ∃ y ∈ D, y.b = true ∧ y.nm = x.1
  | [], _, _, h => by cases h
  | y :: D, n, x, h => by
    cases hy : y.b
    · simp only [svp, hy, Bool.false_eq_true, if_false] at h
      obtain ⟨z, hz, g⟩ := svp_mem D (n + 1) x h
      exact ⟨z, List.mem_cons_of_mem _ hz, g⟩
    · simp only [svp, hy, if_true] at h
      rcases List.mem_cons.1 h with rfl | h
      · exact ⟨y, List.mem_cons_self, hy, rfl⟩
      · obtain ⟨z, hz, g⟩ := svp_mem D n x h
        exact ⟨z, List.mem_cons_of_mem _ hz, g⟩

/-- The names of savepoints. -/
def nms : List DI → List ByteArray
  | [] => []
  | x :: D => if x.b then x.nm :: nms D else nms D

theorem svp_nms : ∀ (D : List DI) (n : Nat), (svp n D).map (·.1) = nms D
  | [], _ => rfl
  | x :: D, n => by
    cases h : x.b
    · simp only [svp, nms, h, Bool.false_eq_true, if_false]; exact svp_nms D (n + 1)
    · simp only [svp, nms, h, if_true, List.map_cons]; rw [svp_nms D n]

theorem nms_append : ∀ (D E : List DI), nms (D ++ E) = nms D ++ nms E
  | [], _ => rfl
  | x :: D, E => by
    rw [List.cons_append]
    cases h : x.b
    · simp only [nms, h, Bool.false_eq_true, if_false]; exact nms_append D E
    · simp only [nms, h, if_true]; rw [nms_append D E]; rfl

theorem ens_len : ∀ (D : List DI), (ens D).length ≤ D.length
  | [] => Nat.le_refl _
  | x :: D => by
    have := ens_len D
    cases h : x.b
    · simp only [ens, h, Bool.false_eq_true, if_false, List.length_cons]; omega
    · simp only [ens, h, if_true, List.length_cons]; omega

theorem svp_len : ∀ (D : List DI) (n : Nat), (svp n D).length ≤ D.length
  | [], _ => Nat.le_refl _
  | x :: D, n => by
    cases h : x.b
    · have := svp_len D (n + 1)
      simp only [svp, h, Bool.false_eq_true, if_false, List.length_cons]; omega
    · have := svp_len D n
      simp only [svp, h, if_true, List.length_cons]; omega

theorem ens_mem : ∀ (D : List DI) (x : PE), x ∈ ens D → ∃ y ∈ D, y.b = false ∧ y.p = x
  | [], _, h => by cases h
  | y :: D, x, h => by
    cases hy : y.b
    · simp only [ens, hy, Bool.false_eq_true, if_false] at h
      rcases List.mem_cons.1 h with rfl | h
      · exact ⟨y, List.mem_cons_self, hy, rfl⟩
      · obtain ⟨z, hz, g⟩ := ens_mem D x h
        exact ⟨z, List.mem_cons_of_mem _ hz, g⟩
    · simp only [ens, hy, if_true] at h
      obtain ⟨z, hz, g⟩ := ens_mem D x h
      exact ⟨z, List.mem_cons_of_mem _ hz, g⟩

theorem take_at {α : Type} {D : List α} {j : Nat} {x : α} (h : D[j]? = some x) : D.take (j + 1) = D.take j ++ [x] := take_snoc h
theorem drop_at {α : Type} {D : List α} {j : Nat} {x : α} (h : D[j]? = some x) : D.drop j = x :: D.drop (j + 1) := by
  obtain ⟨hj, rfl⟩ := List.getElem?_eq_some_iff.1 h
  exact List.drop_eq_getElem_cons hj

theorem take_app {α : Type} {A B : List α} {n : Nat} (h : A.length = n) : (A ++ B).take n = A := by subst h; simp
theorem drop_app {α : Type} {A B : List α} {n : Nat} (h : A.length = n) : (A ++ B).drop n = B := by subst h; simp

/-- Where To stops. -/
def ToJ (D : List DI) (n j : Nat) : Prop := j ≤ D.length ∧ (ens (D.take j)).length ≤ n ∧ (j = D.length ∨ n < (ens (D.take (j + 1))).length)

theorem ToJ.law {D : List DI} {n j : Nat} (h : ToJ D n j) : ens (D.take j) = (ens D).take n ∧ ens (D.drop j) = (ens D).drop n ∧ svp 0 (D.take j) = upto n (svp 0 D) := by
  obtain ⟨h1, h2, h3⟩ := h
  have e := List.take_append_drop j D
  have ee : ens D = ens (D.take j) ++ ens (D.drop j) := by rw [← ens_append, e]
  have es : svp 0 D = svp 0 (D.take j) ++ svp (ens (D.take j)).length (D.drop j) := by
    have := svp_append (D.take j) (D.drop j) 0
    rwa [e, Nat.zero_add] at this
  have hup : upto n (svp 0 (D.take j)) = svp 0 (D.take j) := upto_all fun x hx => by have := (svp_le _ _ _ hx).2; omega
  rcases h3 with h3 | h3
  · have hd : D.drop j = [] := List.drop_eq_nil_of_le (by omega)
    rw [hd] at ee es
    simp only [ens, svp, List.append_nil] at ee es
    refine ⟨?_, ?_, ?_⟩
    · rw [ee, List.take_of_length_le h2]
    · rw [ee, List.drop_eq_nil_of_le h2, hd]; rfl
    · rw [es, hup]
  · have hj : j < D.length := by
      rcases Nat.lt_or_ge j D.length with h | h
      · exact h
      · rw [List.take_of_length_le (by omega)] at h3
        rw [List.take_of_length_le h] at h2
        omega
    obtain ⟨x, hx⟩ : ∃ x, D[j]? = some x := ⟨D[j], List.getElem?_eq_getElem hj⟩
    rw [take_at hx, ens_append, List.length_append] at h3
    have hb : x.b = false := by
      cases hb : x.b
      · rfl
      · simp only [ens, hb, if_true, List.length_nil] at h3; omega
    have hl : (ens (D.take j)).length = n := by
      simp only [ens, hb, Bool.false_eq_true, if_false, List.length_cons, List.length_nil] at h3; omega
    refine ⟨?_, ?_, ?_⟩
    · rw [ee]; exact (take_app hl).symm
    · rw [ee]; exact (drop_app hl).symm
    · have hr : upto n (svp (ens (D.take j)).length (D.drop j)) = [] := List.filter_eq_nil_iff.2 fun y hy => by
        rw [drop_at hx] at hy
        simp only [svp, hb, Bool.false_eq_true, if_false] at hy
        have := (svp_le _ _ _ hy).1
        simp; omega
      have : upto n (svp 0 D) = upto n (svp 0 (D.take j)) ++ upto n (svp (ens (D.take j)).length (D.drop j)) := by
        conv => lhs; rw [es]
        exact List.filter_append _ _
      rw [this, hup, hr, List.append_nil]

/-- The newest savepoint with a name. -/
def BkI (D : List DI) (name : ByteArray) (i : Nat) : Prop := ∃ x, D[i]? = some x ∧ x.b = true ∧ x.nm = name ∧ ∀ (j : Nat) (y : DI), i < j → D[j]? = some y → y.b = true → y.nm ≠ name

theorem BkI.law {D : List DI} {name : ByteArray} {i : Nat} (h : BkI D name i) : ∃ k n, (svp 0 D)[k]? = some (name, n) ∧ (∀ (j : Nat) (y : Sv), k < j → (svp 0 D)[j]? = some y → y.1 ≠ name) ∧ ens (D.take (i + 1)) = (ens D).take n ∧ ens (D.drop (i + 1)) = (ens D).drop n ∧ svp 0 (D.take (i + 1)) = (svp 0 D).take (k + 1) := by
  obtain ⟨x, hx, hb, hn, hl⟩ := h
  have e := List.take_append_drop (i + 1) D
  have ee : ens D = ens (D.take (i + 1)) ++ ens (D.drop (i + 1)) := by rw [← ens_append, e]
  have es : svp 0 D = svp 0 (D.take (i + 1)) ++ svp (ens (D.take (i + 1))).length (D.drop (i + 1)) := by
    have := svp_append (D.take (i + 1)) (D.drop (i + 1)) 0
    rwa [e, Nat.zero_add] at this
  have e1 : svp 0 (D.take (i + 1)) = svp 0 (D.take i) ++ [(name, (ens (D.take i)).length)] := by
    rw [take_at hx, svp_append, Nat.zero_add]
    simp only [svp, hb, if_true, hn]
  have e2 : ens (D.take (i + 1)) = ens (D.take i) := by
    rw [take_at hx, ens_append]
    simp only [ens, hb, if_true, List.append_nil]
  refine ⟨(svp 0 (D.take i)).length, (ens (D.take i)).length, ?_, ?_, ?_, ?_, ?_⟩
  · rw [es, e1, List.append_assoc, List.getElem?_append_right (Nat.le_refl _), Nat.sub_self]; rfl
  · intro j y hj hy
    rw [es, List.getElem?_append_right (by rw [e1]; simp; omega)] at hy
    obtain ⟨z, hz, g1, g2⟩ := svp_mem _ _ _ (List.mem_of_getElem? hy)
    obtain ⟨m, hm⟩ := List.getElem?_of_mem hz
    rw [List.getElem?_drop] at hm
    rw [← g2]
    exact hl _ z (by omega) hm g1
  · rw [ee]; exact (take_app (by rw [e2])).symm
  · rw [ee]; exact (drop_app (by rw [e2])).symm
  · rw [es]; exact (take_app (by rw [e1]; simp)).symm

theorem bk_none {D : List DI} {name : ByteArray} (h : ∀ x ∈ D, x.b = true → x.nm ≠ name) : ∀ y ∈ svp 0 D, y.1 ≠ name := fun y hy e => by
  obtain ⟨z, hz, g1, g2⟩ := svp_mem _ _ _ hy
  exact h z hz g1 (g2.trans e)

theorem ens_snoc (D : List DI) (x : DI) : ens (D ++ [x]) = if x.b then ens D else ens D ++ [x.p] := by
  rw [ens_append]
  cases h : x.b <;> simp [ens, h]
theorem svp_snoc (D : List DI) (x : DI) : svp 0 (D ++ [x]) = if x.b then svp 0 D ++ [(x.nm, (ens D).length)] else svp 0 D := by
  rw [svp_append, Nat.zero_add]
  cases h : x.b <;> simp [svp, h]
end Go.Proofs.Ytdiagnmkfnhnjaa
