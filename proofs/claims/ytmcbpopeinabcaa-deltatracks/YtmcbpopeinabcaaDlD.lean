/-
  Delta: lists of changes in memory; folded of package delta.
-/
import Derived.DeepKeys4
import Derived.Carry
import Derived.Test.YtmcbpopeinabcaaDlC
import Derived.Test.YtmcbpopeinabcaaDlM
import Derived.Test.YtmcbpopeinabcaaDlP
namespace Go.Proofs.Ytmcbpopeinabcaa
open Go.RowKit
open Go.Maps (Keyed)
open Go.ChangeMaps (setBlock heap_setBlock_same heap_setBlock_other)

theorem laidOut : laidOutB Try.prog = true := by kernel_rfl

/-- A row's name as a key. -/
def rkV (t : ByteArray) (id : Int) : Value := .agg #[.string t, .int .i64 id]

theorem rowKeyed : Keyed Try.prog 73 := Keyed.of_law (deep_law_laid laidOut (m := 3) (by omega) (of_decide_eq_true (by kernel_rfl)) (by kernel_rfl) (by kernel_rfl))

theorem key_row {t : ByteArray} {id : Int} (ht : t.size ≤ 1000000) (hi : (Lit.int .i64 id).wf = true) : ∃ l, keyOf Try.prog 73 (rkV t id) = some l := by
  obtain ⟨m, hm⟩ : ∃ m, Try.prog.types.size + 1 = m + 2 := ⟨Try.prog.types.size - 1, by have : 1 ≤ Try.prog.types.size := of_decide_eq_true (by kernel_rfl); omega⟩
  have hk : Try.prog.keyType 73 = true := by kernel_rfl
  have hc : Try.prog.cellsOf 73 = 2 := by kernel_rfl
  have hs : Try.prog.cellsOf 9 = 1 := by kernel_rfl
  have hi' : Try.prog.cellsOf 3 = 1 := by kernel_rfl
  have hml : t.size ≤ maxLen := by unfold maxLen; omega
  unfold keyOf
  rw [Try.underlying73]
  simp only [hk, rkV, Value.formed, Try.underlying73, hc, hm]
  simp [Program.keyLits, Try.underlying73, Try.underlying9, Try.underlying3, hc, hs, hi', hml, hi, Value.cells]

/-- A change with what it means. -/
abbrev PC := RC × Chg

def rcs (l : List PC) : List Value := l.flatMap fun x => rcC x.1

theorem rcs_length (l : List PC) : (rcs l).length = l.length * 4 := by
  induction l with
  | nil => rfl
  | cons v l ih => rw [show rcs (v :: l) = rcC v.1 ++ rcs l from rfl, List.length_append, ih, List.length_cons]; simp [rcC]; omega

theorem rcs_append (l m : List PC) : rcs (l ++ m) = rcs l ++ rcs m := by simp [rcs]

theorem rcs_at (l : List PC) : ∀ (j : Nat) (x : PC), l[j]? = some x → (rcs l)[j * 4]? = some (.string x.1.t) ∧ (rcs l)[j * 4 + 1]? = some (.int .i64 x.1.id) ∧ (rcs l)[j * 4 + 2]? = some (.slice x.1.oa x.1.ol x.1.oc) ∧ (rcs l)[j * 4 + 3]? = some (.slice x.1.na x.1.nl x.1.nc) := by
  induction l with
  | nil => intro j v h; simp at h
  | cons u l ih =>
    intro j v h
    have e : rcs (u :: l) = .string u.1.t :: .int .i64 u.1.id :: .slice u.1.oa u.1.ol u.1.oc :: .slice u.1.na u.1.nl u.1.nc :: rcs l := rfl
    cases j with
    | zero =>
      simp at h
      subst h
      rw [e]; exact ⟨rfl, rfl, rfl, rfl⟩
    | succ j =>
      have := ih j v (by simpa using h)
      rw [e, show (j + 1) * 4 = j * 4 + 4 by omega]
      exact this

theorem rcs_one {l : List PC} : ∀ u ∈ rcs l, u.oneCell' = true := by
  intro u hu
  obtain ⟨p, _, hp⟩ := List.mem_flatMap.1 hu
  simp [rcC] at hp
  rcases hp with rfl | rfl | rfl | rfl <;> rfl

/-- The changes of a slice whose first lies at a. -/
def SlC (W : World) (a : Option Addr) (l : List PC) : Prop := l = [] ∨ ∃ b o, a = some ⟨b, o, none⟩ ∧ b < W.heap.size ∧ ∀ j x, l[j]? = some x →
  W.cell? ⟨b, o + j * 4, none⟩ = some (.string x.1.t) ∧ W.cell? ⟨b, o + j * 4 + 1, none⟩ = some (.int .i64 x.1.id) ∧ W.cell? ⟨b, o + j * 4 + 2, none⟩ = some (.slice x.1.oa x.1.ol x.1.oc) ∧ W.cell? ⟨b, o + j * 4 + 3, none⟩ = some (.slice x.1.na x.1.nl x.1.nc)

theorem SlC.turn {W W' : World} {a : Option Addr} {l : List PC} (h : SlC W a l) (hs : W.heap.size ≤ W'.heap.size) (hb : ∀ b o, a = some ⟨b, o, none⟩ → b < W.heap.size → W'.heap[b]? = W.heap[b]?) : SlC W' a l := by
  rcases h with h | ⟨b, o, e, hlt, hc⟩
  · exact Or.inl h
  · refine Or.inr ⟨b, o, e, by omega, fun j c hj => ?_⟩
    have e := fun i => World.cell?_of_block (w := W) (w' := W') (a := ⟨b, i, none⟩) (hb _ _ e hlt)
    simp only [e]
    exact hc j c hj

theorem SlC.below {W W' : World} {a : Option Addr} {l : List PC} (h : SlC W a l) (hb : Below W.heap.size W W') : SlC W' a l := h.turn hb.size fun b _ _ hlt => hb.block b hlt

theorem SlC.at {W : World} {a : Option Addr} {l : List PC} (h : SlC W a l) {j : Nat} (hj : j < l.length) : ∃ b o x, a = some ⟨b, o, none⟩ ∧ b < W.heap.size ∧ l[j]? = some x ∧
    W.cell? ⟨b, o + j * 4, none⟩ = some (.string x.1.t) ∧ W.cell? ⟨b, o + j * 4 + 1, none⟩ = some (.int .i64 x.1.id) ∧ W.cell? ⟨b, o + j * 4 + 2, none⟩ = some (.slice x.1.oa x.1.ol x.1.oc) ∧ W.cell? ⟨b, o + j * 4 + 3, none⟩ = some (.slice x.1.na x.1.nl x.1.nc) := by
  rcases h with rfl | ⟨b, o, e, hlt, hc⟩
  · simp at hj
  · exact ⟨b, o, l[j], e, hlt, List.getElem?_eq_getElem hj, hc j _ (List.getElem?_eq_getElem hj)⟩

/-- A row of the call's own, read as a slice. -/
theorem owns_slc {W : World} {base e : Nat} {a : Option Addr} {n c : Nat} {l : List PC} (h : W.ownsRow base e 4 (.slice a n c) n (rcs l)) : l.length = n ∧ SlC W a l ∧ (a = none → c = 0) := by
  have hl : l.length = n := by have := h.1; rw [rcs_length] at this; omega
  refine ⟨hl, ?_, ?_⟩
  · rcases h.2 with ⟨e, h0⟩ | ⟨g, cap, cur, e, hg, hb, _⟩
    · exact Or.inl (List.length_eq_zero_iff.1 (by omega))
    · cases e
      refine Or.inr ⟨g, 0, rfl, (Array.getElem?_eq_some_iff.1 hb).1, fun j u hu => ?_⟩
      obtain ⟨c0, c1, c2, c3⟩ := rcs_at l j u hu
      have hc : ∀ t x, (rcs l)[t]? = some x → W.cell? ⟨g, 0 + t, none⟩ = some x := fun t x hx => by
        have := World.ownsRow.cells h (g := g) rfl t x hx
        rwa [add_none] at this
      exact ⟨hc _ _ c0, by rw [Nat.add_assoc]; exact hc _ _ c1, by rw [Nat.add_assoc]; exact hc _ _ c2, by rw [Nat.add_assoc]; exact hc _ _ c3⟩
  · rintro rfl
    rcases h.2 with ⟨e, h0⟩ | ⟨g, cap, cur, e, _⟩
    · injection e
    · injection e with e; cases e

def AllM (W : World) (l : List PC) : Prop := ∀ x ∈ l, Means W x.1 x.2

theorem AllM.below {W W' : World} {l : List PC} (h : AllM W l) (hb : Below W.heap.size W W') : AllM W' l := fun x hx => (h x hx).below hb

/-- A later change of the same row. -/
def updP (r x : PC) : PC := ({ r.1 with na := x.1.na, nl := x.1.nl, nc := x.1.nc }, { r.2 with n := x.2.n })

def stepP (rows : List PC) (x : PC) : List PC := if rows.any (fun r => r.2.isK x.2.key) then rows.map (fun r => if r.2.isK x.2.key then updP r x else r) else rows ++ [x]

def foldP (l : List PC) : List PC := l.foldl stepP []

theorem foldP_snoc (l : List PC) (c : PC) : foldP (l ++ [c]) = stepP (foldP l) c := by unfold foldP; rw [List.foldl_append]; rfl

theorem stepP_snd (rows : List PC) (x : PC) : (stepP rows x).map (·.2) = stepC (rows.map (·.2)) x.2 := by
  unfold stepP stepC
  rw [List.any_map]
  show _ = if (rows.any fun r => r.2.isK x.2.key) = true then _ else _
  split
  · rw [List.map_map, List.map_map]
    refine List.map_congr_left fun r _ => ?_
    show (if r.2.isK x.2.key then updP r x else r).2 = if r.2.isK x.2.key then { r.2 with n := x.2.n } else r.2
    split <;> rfl
  · simp

theorem foldP_snd (l : List PC) : (foldP l).map (·.2) = foldC (l.map (·.2)) := by
  induction l using snoc_ind with
  | h0 => rfl
  | h1 l a ih => rw [foldP_snoc, stepP_snd, ih, List.map_append]; exact (foldC_snoc _ _).symm

theorem allM_step {W : World} {rows : List PC} {x : PC} (h : AllM W rows) (hx : Means W x.1 x.2) : AllM W (stepP rows x) := by
  unfold stepP
  intro r hr
  split at hr
  · obtain ⟨r0, h0, rfl⟩ := List.mem_map.1 hr
    have m := h r0 h0
    split
    · exact ⟨m.t, m.id, m.ol, hx.nl, m.ob, hx.nb, m.o, hx.n, m.oc, hx.nc, m.tb, m.ib⟩
    · exact m
  · rcases List.mem_append.1 hr with hr | hr
    · exact h r hr
    · simp at hr; subst hr; exact hx

theorem allM_fold {W : World} {l : List PC} (h : AllM W l) : AllM W (foldP l) := by
  induction l using snoc_ind with
  | h0 => intro x hx; cases hx
  | h1 l a ih => rw [foldP_snoc]; exact allM_step (ih fun x hx => h x (by simp [hx])) (h a (by simp))

theorem foldP_apart (l : List PC) : (foldP l).Pairwise (fun a b => a.2.key ≠ b.2.key) := by
  have := (rows_fold (l.map (·.2))).apart
  rw [← foldP_snd, List.pairwise_map] at this
  exact this

theorem foldP_length (l : List PC) : (foldP l).length ≤ l.length := by
  induction l using snoc_ind with
  | h0 => exact Nat.le_refl _
  | h1 l a ih =>
    rw [foldP_snoc]
    unfold stepP
    split <;> simp <;> omega

/-- Where the row stands at j, just that place is turned. -/
theorem stepP_at {rows : List PC} {x r : PC} {j : Nat} (hp : rows.Pairwise (fun a b => a.2.key ≠ b.2.key)) (hj : rows[j]? = some r) (hk : r.2.key = x.2.key) : stepP rows x = rows.set j (updP r x) := by
  unfold stepP
  rw [if_pos (List.any_eq_true.2 ⟨r, List.mem_of_getElem? hj, isK_iff.2 hk⟩)]
  refine List.ext_getElem? fun i => ?_
  rw [List.getElem?_map, List.getElem?_set]
  obtain ⟨hjl, hjr⟩ := List.getElem?_eq_some_iff.1 hj
  by_cases hij : j = i
  · subst hij
    rw [if_pos rfl, if_pos hjl, hj]
    simp [isK_iff.2 hk]
  · rw [if_neg hij]
    cases hi : rows[i]? with
    | none => rfl
    | some s =>
      obtain ⟨hil, his⟩ := List.getElem?_eq_some_iff.1 hi
      have hne : s.2.key ≠ r.2.key := by
        rw [List.pairwise_iff_getElem] at hp
        rcases Nat.lt_or_gt_of_ne hij with h | h
        · have := hp j i hjl hil h
          rw [hjr, his] at this; exact fun e => this e.symm
        · have := hp i j hil hjl h
          rw [hjr, his] at this; exact this
      simp [isK_ne (fun e => hne (e.trans hk.symm))]

theorem stepP_new {rows : List PC} {x : PC} (h : ∀ r ∈ rows, r.2.key ≠ x.2.key) : stepP rows x = rows ++ [x] := by
  unfold stepP
  rw [if_neg]
  intro ha
  obtain ⟨r, hr, hk⟩ := List.any_eq_true.1 ha
  exact h r hr (isK_iff.1 hk)

/-- The map's entries: each row's place. -/
def ents : List PC → Nat → List MapEntry
  | [], _ => []
  | x :: l, i => ⟨rkV x.1.t x.1.id, .int .i64 (i : Int), i⟩ :: ents l (i + 1)

theorem ents_snoc (l : List PC) (x : PC) : ∀ i, ents (l ++ [x]) i = ents l i ++ [⟨rkV x.1.t x.1.id, .int .i64 ((i + l.length : Nat) : Int), i + l.length⟩] := by
  induction l with
  | nil => intro i; rfl
  | cons y l ih =>
    intro i
    show _ :: ents (l ++ [x]) (i + 1) = _
    rw [ih, List.length_cons, show i + 1 + l.length = i + (l.length + 1) by omega]; rfl

theorem ents_at (l : List PC) : ∀ (i j : Nat) (e : MapEntry), (ents l i)[j]? = some e → ∃ x, l[j]? = some x ∧ e = ⟨rkV x.1.t x.1.id, .int .i64 ((i + j : Nat) : Int), i + j⟩ := by
  induction l with
  | nil => intro i j e h; simp [ents] at h
  | cons y l ih =>
    intro i j e h
    cases j with
    | zero => simp [ents] at h; exact ⟨y, rfl, h.symm⟩
    | succ j =>
      obtain ⟨x, hx, he⟩ := ih (i + 1) j e (by simpa [ents] using h)
      exact ⟨x, by simpa using hx, by rw [he, show i + 1 + j = i + (j + 1) by omega]⟩

theorem ents_mem {l : List PC} {i : Nat} {x : PC} (h : x ∈ l) : ∃ e ∈ ents l i, e.key = rkV x.1.t x.1.id := by
  induction l generalizing i with
  | nil => cases h
  | cons y l ih =>
    rcases List.mem_cons.1 h with rfl | h
    · exact ⟨_, List.mem_cons_self, rfl⟩
    · obtain ⟨e, he, hk⟩ := ih (i := i + 1) h
      exact ⟨e, List.mem_cons_of_mem _ he, hk⟩

theorem ents_set (l : List PC) (r : PC) : ∀ (i j : Nat) (x : PC), l[j]? = some x → r.1.t = x.1.t → r.1.id = x.1.id → ents (l.set j r) i = ents l i := by
  induction l with
  | nil => intro i j x h; simp at h
  | cons y l ih =>
    intro i j x h h1 h2
    cases j with
    | zero => simp at h; subst h; show _ :: _ = _ :: _; rw [h1, h2]
    | succ j =>
      show _ :: ents (l.set j r) (i + 1) = _ :: _
      rw [ih (i + 1) j x (by simpa using h) h1 h2]

theorem rcs_set (l : List PC) : ∀ (j : Nat) (r x : PC), l[j]? = some r → rcs (l.set j (updP r x)) = (rcs l).set (j * 4 + 3) (.slice x.1.na x.1.nl x.1.nc) := by
  induction l with
  | nil => intro j r x h; simp at h
  | cons y l ih =>
    intro j r x h
    have e : ∀ z : PC, ∀ m, rcs (z :: m) = .string z.1.t :: .int .i64 z.1.id :: .slice z.1.oa z.1.ol z.1.oc :: .slice z.1.na z.1.nl z.1.nc :: rcs m := fun _ _ => rfl
    cases j with
    | zero => simp at h; subst h; rw [List.set_cons_zero, e, e]; rfl
    | succ j =>
      rw [List.set_cons_succ, e, e, ih j r x (by simpa using h), show (j + 1) * 4 + 3 = (j * 4 + 3) + 4 by omega]; rfl
end Go.Proofs.Ytmcbpopeinabcaa
