/-
  Delta: the law's states; changes, plain, and what its map does.
-/
import Derived.Laws.IdiomStrings
import Derived.Test.YtmcbpopeinabcaaDlJ
namespace Go.Proofs.Ytmcbpopeinabcaa
open Go.RowKit
open Go.Maps (Keyed)
open Go.ChangeMaps (setBlock heap_setBlock_same heap_setBlock_other)

abbrev Key2 := Nat × Nat

def k2V (k : Key2) : Value := .agg #[.int .u8 (k.1 : Int), .int .u8 (k.2 : Int)]

theorem keyed2 : Keyed Try.prog 44 := Keyed.of_law (deep_law_laid laidOut (m := 3) (by omega) (of_decide_eq_true (by kernel_rfl)) (by kernel_rfl) (by kernel_rfl))

theorem wf8 {n : Nat} (h : n < 256) : (Lit.int .u8 (n : Int)).wf = true := by
  simp [Lit.wf, IntKind.min, IntKind.max, IntKind.signed, IntKind.bits]; omega

theorem key2_ok {k : Key2} (h1 : k.1 < 256) (h2 : k.2 < 256) : ∃ l, keyOf Try.prog 44 (k2V k) = some l := by
  obtain ⟨m, hm⟩ : ∃ m, Try.prog.types.size + 1 = m + 2 := ⟨Try.prog.types.size - 1, by have : 1 ≤ Try.prog.types.size := of_decide_eq_true (by kernel_rfl); omega⟩
  have hk : Try.prog.keyType 44 = true := by kernel_rfl
  have hc : Try.prog.cellsOf 44 = 2 := by kernel_rfl
  have hs : Try.prog.cellsOf 5 = 1 := by kernel_rfl
  unfold keyOf
  rw [Try.underlying44]
  simp only [hk, k2V, Value.formed, Try.underlying44, hc, hm]
  simp [Program.keyLits, Try.underlying44, Try.underlying5, hc, hs, wf8 h1, wf8 h2, Value.cells, List.range, List.range.loop]

theorem k2_inj {k k' : Key2} (h : k2V k = k2V k') : k = k' := by
  obtain ⟨a, b⟩ := k
  obtain ⟨c, d⟩ := k'
  simp [k2V] at h
  obtain ⟨h1, h2⟩ := h
  rw [Prod.mk.injEq]; omega

abbrev St := List (Key2 × SV)

def nilS : SV := ⟨none, 0, 0, []⟩

def getS (st : St) (k : Key2) : SV := ((st.find? fun p => p.1 == k).map (·.2)).getD nilS

def setS (st : St) (k : Key2) (v : SV) : St := if st.any (fun p => p.1 == k) then st.map (fun p => if p.1 == k then (p.1, v) else p) else st ++ [(k, v)]

theorem getS_set (st : St) (k k' : Key2) (v : SV) : getS (setS st k v) k' = if k = k' then v else getS st k' := by
  unfold getS setS
  split
  · rename_i h
    rw [List.find?_map]
    have e : ((fun p : Key2 × SV => p.1 == k') ∘ fun p : Key2 × SV => if p.1 == k then (p.1, v) else p) = fun p => p.1 == k' := by
      funext p
      show ((if p.1 == k then (p.1, v) else p).1 == k') = _
      split <;> rfl
    rw [e]
    by_cases hk : k = k'
    · subst hk
      rw [if_pos rfl]
      obtain ⟨p, hp, hpk⟩ := List.any_eq_true.1 h
      cases hf : st.find? (fun p => p.1 == k) with
      | none => rw [List.find?_eq_none] at hf; exact absurd hpk (hf p hp)
      | some q =>
        have := List.find?_some hf
        simp only [Option.map_some, Option.getD_some, this, if_true]
    · rw [if_neg hk]
      cases hf : st.find? (fun p => p.1 == k') with
      | none => rfl
      | some q =>
        have hq := List.find?_some hf
        have : (q.1 == k) = false := by
          rw [beq_eq_false_iff_ne]
          intro e'
          rw [beq_iff_eq] at hq
          exact hk (e'.symm.trans hq)
        simp only [Option.map_some, Option.getD_some, this]; rfl
  · rename_i h
    rw [List.find?_append]
    by_cases hk : k = k'
    · subst hk
      rw [if_pos rfl]
      have : st.find? (fun p => p.1 == k) = none := by
        rw [List.find?_eq_none]
        intro p hp hpk
        exact h (List.any_eq_true.2 ⟨p, hp, hpk⟩)
      rw [this]
      simp
    · rw [if_neg hk]
      have : (k == k') = false := beq_eq_false_iff_ne.2 hk
      simp [this]

theorem setS_mem {st : St} {k : Key2} {v : SV} {p : Key2 × SV} (h : p ∈ setS st k v) : p ∈ st ∨ p = (k, v) := by
  unfold setS at h
  split at h
  · obtain ⟨q, hq, rfl⟩ := List.mem_map.1 h
    split
    · rename_i hk; rw [beq_iff_eq] at hk; exact Or.inr (by rw [hk])
    · exact Or.inl hq
  · rcases List.mem_append.1 h with h | h
    · exact Or.inl h
    · simp at h; exact Or.inr h

theorem getS_mem {st : St} {k : Key2} : getS st k = nilS ∨ (k, getS st k) ∈ st := by
  unfold getS
  cases hf : st.find? (fun p => p.1 == k) with
  | none => exact Or.inl rfl
  | some q =>
    refine Or.inr ?_
    have h1 := List.mem_of_find?_eq_some hf
    have h2 := List.find?_some hf
    rw [beq_iff_eq] at h2
    simp
    rw [← h2]; exact h1

/-- What a state's slices are. -/
structure StOk (W : World) (st : St) : Prop where
  ok : ∀ p ∈ st, p.1.1 < 3 ∧ p.1.2 < 6 ∧ p.2.ok W ∧ p.2.l ≤ 20
  apart : st.Pairwise fun a b => a.1 ≠ b.1

theorem nil_ok (W : World) : nilS.ok W := ⟨Or.inl rfl, rfl, fun _ => rfl, Nat.zero_le _⟩

theorem StOk.get {W : World} {st : St} (h : StOk W st) (k : Key2) : (getS st k).ok W ∧ (getS st k).l ≤ 20 := by
  rcases getS_mem (st := st) (k := k) with e | e
  · rw [e]; exact ⟨nil_ok W, Nat.zero_le _⟩
  · exact (h.ok _ e).2.2

theorem StOk.below {W W' : World} {st : St} (h : StOk W st) (hb : Below W.heap.size W W') : StOk W' st := ⟨fun p hp => ⟨(h.ok p hp).1, (h.ok p hp).2.1, (h.ok p hp).2.2.1.below hb, (h.ok p hp).2.2.2⟩, h.apart⟩

theorem StOk.set {W : World} {st : St} (h : StOk W st) {k : Key2} {v : SV} (h1 : k.1 < 3) (h2 : k.2 < 6) (hv : v.ok W) (hl : v.l ≤ 20) : StOk W (setS st k v) := by
  refine ⟨fun p hp => ?_, ?_⟩
  · rcases setS_mem hp with hp | rfl
    · exact h.ok p hp
    · exact ⟨h1, h2, hv, hl⟩
  · unfold setS
    split
    · rw [List.pairwise_map]
      refine h.apart.imp fun {a b} hab => ?_
      have e : ∀ p : Key2 × SV, (if p.1 == k then (p.1, v) else p).1 = p.1 := fun p => by split <;> rfl
      rw [e, e]; exact hab
    · rename_i hn
      rw [List.pairwise_append]
      refine ⟨h.apart, by simp, fun a ha b hb => ?_⟩
      simp at hb; subst hb
      intro e
      exact hn (List.any_eq_true.2 ⟨a, ha, by rw [beq_iff_eq]; exact e⟩)

/-- A state's map. -/
structure MapS (W : World) (b : Nat) (st : St) : Prop where
  map : ∃ es clock, MapAt Try.prog 44 W b es clock ∧ es.map (fun e => (e.key, e.val)) = st.map (fun p => (k2V p.1, p.2.v))
  apart : st.Pairwise fun a b => a.1 ≠ b.1

theorem MapS.turn {W W' : World} {b : Nat} {st : St} (h : MapS W b st) (hb : W'.heap[b]? = W.heap[b]?) : MapS W' b st := by
  obtain ⟨⟨es, clock, hm, he⟩, hp⟩ := h
  exact ⟨⟨es, clock, hm.turn hb, he⟩, hp⟩

theorem MapS.lt {W : World} {b : Nat} {st : St} (h : MapS W b st) : b < W.heap.size := by
  obtain ⟨⟨es, clock, hm, he⟩, hp⟩ := h
  exact hm.lt

theorem es_at {es : List MapEntry} {st : St} (he : es.map (fun e => (e.key, e.val)) = st.map (fun p => (k2V p.1, p.2.v))) {j : Nat} {e : MapEntry} (h : es[j]? = some e) : ∃ p, st[j]? = some p ∧ e.key = k2V p.1 ∧ e.val = p.2.v := by
  have := congrArg (·[j]?) he
  simp only [List.getElem?_map, h, Option.map_some] at this
  cases hs : st[j]? with
  | none => rw [hs] at this; cases this
  | some p =>
    rw [hs] at this
    simp at this
    exact ⟨p, rfl, this.1, this.2⟩

theorem es_none {es : List MapEntry} {st : St} (he : es.map (fun e => (e.key, e.val)) = st.map (fun p => (k2V p.1, p.2.v))) {k : Key2} (h : ∀ e ∈ es, e.key ≠ k2V k) : ∀ p ∈ st, p.1 ≠ k := by
  intro p hp hk
  obtain ⟨j, hj, e⟩ := List.getElem_of_mem hp
  have := congrArg (·[j]?) he
  simp only [List.getElem?_map] at this
  rw [List.getElem?_eq_getElem hj, e] at this
  cases hs : es[j]? with
  | none => rw [hs] at this; cases this
  | some x =>
    rw [hs] at this
    simp at this
    exact h x (List.mem_of_getElem? hs) (by rw [this.1, hk])

theorem find_at {st : St} (hp : st.Pairwise fun a b => a.1 ≠ b.1) {j : Nat} {p : Key2 × SV} (h : st[j]? = some p) : st.find? (fun q => q.1 == p.1) = some p := by
  induction st generalizing j with
  | nil => simp at h
  | cons q st ih =>
    obtain ⟨h1, h2⟩ := List.pairwise_cons.1 hp
    cases j with
    | zero => simp at h; subst h; simp
    | succ j =>
      have hm : p ∈ st := List.mem_of_getElem? (by simpa using h)
      have : (q.1 == p.1) = false := beq_eq_false_iff_ne.2 (h1 p hm)
      rw [List.find?_cons, this]
      exact ih h2 (by simpa using h)

theorem MapS.look {W : World} {b : Nat} {st : St} (h : MapS W b st) {k : Key2} (h1 : k.1 < 256) (h2 : k.2 < 256) : (Instr.lookup 42 (.map (some b)) (k2V k) false).run Try.prog W = .ok (getS st k).v W := by
  obtain ⟨⟨es, clock, hm, he⟩, hp⟩ := h
  obtain ⟨kl, hkl⟩ := key2_ok h1 h2
  rcases map_look hm keyed2 Try.underlying42 (z := .slice none 0 0) (by exact Try.zeroValue25 W) hkl false with ⟨g1, g2⟩ | ⟨j, x, g1, g2, g3⟩
  · rw [g1]
    have : st.find? (fun p => p.1 == k) = none := by
      rw [List.find?_eq_none]
      intro p hp' hk
      exact es_none he g2 p hp' (by simpa using hk)
    simp [getS, this, nilS, SV.v]
  · obtain ⟨p, hp1, hp2, hp3⟩ := es_at he g2
    have hk : p.1 = k := k2_inj (hp2.symm.trans g3)
    have := find_at hp hp1
    rw [hk] at this
    rw [g1]
    simp [getS, this, hp3]

theorem MapS.store {W : World} {b : Nat} {st : St} (h : MapS W b st) {k : Key2} (h1 : k.1 < 256) (h2 : k.2 < 256) (v : SV) : ∃ o, (Instr.mapUpdate 42 (.map (some b)) (k2V k) v.v).run Try.prog W = .ok () (setBlock W b o) ∧ MapS (setBlock W b o) b (setS st k v) ∧ (∃ es clock, W.heap[b]? = some (.map es clock)) := by
  obtain ⟨⟨es, clock, hm, he⟩, hp⟩ := h
  obtain ⟨kl, hkl⟩ := key2_ok h1 h2
  rcases map_store hm keyed2 Try.underlying42 hkl v.v with ⟨g0, g1, g2⟩ | ⟨j, x, g0, g3, g1, g2⟩
  · have hno := es_none he g0
    have e : setS st k v = st ++ [(k, v)] := by
      unfold setS
      rw [if_neg]
      intro ha
      obtain ⟨p, hp', hk⟩ := List.any_eq_true.1 ha
      exact hno p hp' (by simpa using hk)
    refine ⟨_, g1, ⟨⟨_, _, g2, ?_⟩, ?_⟩, _, _, hm.heap⟩
    · rw [e, List.map_append, List.map_append, he]; rfl
    · rw [e, List.pairwise_append]
      exact ⟨hp, by simp, fun a ha b hb => by simp at hb; subst hb; exact hno a ha⟩
  · obtain ⟨p, hp1, hp2, hp3⟩ := es_at he g0
    have hk : p.1 = k := k2_inj (hp2.symm.trans g3)
    have e : setS st k v = st.set j (k, v) := by
      unfold setS
      rw [if_pos (List.any_eq_true.2 ⟨p, List.mem_of_getElem? hp1, by simp [hk]⟩)]
      refine List.ext_getElem? fun i => ?_
      rw [List.getElem?_map, List.getElem?_set]
      obtain ⟨hjl, hjr⟩ := List.getElem?_eq_some_iff.1 hp1
      by_cases hij : j = i
      · subst hij
        rw [if_pos rfl, if_pos hjl, hp1]
        simp [hk]
      · rw [if_neg hij]
        cases hi : st[i]? with
        | none => rfl
        | some q =>
          obtain ⟨hil, his⟩ := List.getElem?_eq_some_iff.1 hi
          have hne : q.1 ≠ p.1 := by
            rw [List.pairwise_iff_getElem] at hp
            rcases Nat.lt_or_gt_of_ne hij with g | g
            · have := hp j i hjl hil g
              rw [hjr, his] at this; exact fun e => this e.symm
            · have := hp i j hil hjl g
              rw [hjr, his] at this; exact this
          have : (q.1 == k) = false := beq_eq_false_iff_ne.2 fun e => hne (e.trans hk.symm)
          simp only [Option.map_some, this]; rfl
    refine ⟨_, g1, ⟨⟨_, _, g2, ?_⟩, ?_⟩, _, _, hm.heap⟩
    · rw [e, List.map_set, List.map_set, he, g3]
    · have hset : (setS st k v).map (·.1) = st.map (·.1) := by
        rw [e, List.map_set]
        refine List.ext_getElem? fun i => ?_
        rw [List.getElem?_set, List.getElem?_map]
        obtain ⟨hjl, hjr⟩ := List.getElem?_eq_some_iff.1 hp1
        by_cases hij : j = i
        · subst hij
          rw [if_pos rfl, if_pos (by simpa using hjl), hp1]
          simp [hk]
        · rw [if_neg hij]
      rw [← List.pairwise_map (f := fun p : Key2 × SV => p.1) (R := fun a b => a ≠ b), hset, List.pairwise_map]
      exact hp
end Go.Proofs.Ytmcbpopeinabcaa
