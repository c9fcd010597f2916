/-
  Delta, plain: changes that follow one another.
-/
import Derived.Test.YtmcbpopeinabcaaDlL
namespace Go.Proofs.Ytmcbpopeinabcaa
open Go.RowKit

/-- What the rows are. -/
abbrev Sg := Key2 → List Va

def ck (k : Key2) : ByteArray × Int := (tblB k.1, (k.2 : Int))

def InR (k : Key2) : Prop := k.1 < 3 ∧ k.2 < 6

theorem tbl_inj {a b : Nat} (ha : a < 3) (hb : b < 3) (h : tblB a = tblB b) : a = b := by
  have e := congrArg (fun s : ByteArray => s.data[1]!) h
  simp [tblB] at e
  have := congrArg UInt8.toNat e
  simp at this
  omega

theorem ck_inj {a b : Key2} (ha : InR a) (hb : InR b) (h : ck a = ck b) : a = b := by
  obtain ⟨a1, a2⟩ := a
  obtain ⟨b1, b2⟩ := b
  simp only [ck, Prod.mk.injEq] at h
  have := tbl_inj ha.1 hb.1 h.1
  have := h.2
  rw [Prod.mk.injEq]
  omega

/-- Changes that lead from the one to the other. -/
structure Chain (s s' : Sg) (L : List Chg) : Prop where
  a : ∀ key o, firstO L key = some o → ∃ k, InR k ∧ key = ck k ∧ o = s k
  b : ∀ key n, lastN L key = some n → ∃ k, InR k ∧ key = ck k ∧ n = s' k
  c : ∀ k, InR k → firstO L (ck k) = none → s' k = s k

theorem none_of {L : List Chg} {key : ByteArray × Int} : firstO L key = none ↔ lastN L key = none := by
  have := first_last key L
  cases h1 : firstO L key <;> cases h2 : lastN L key <;> simp [h1, h2] at this ⊢

theorem Chain.nil (s : Sg) : Chain s s [] := ⟨fun _ _ h => (by cases h), fun _ _ h => (by cases h), fun _ _ _ => rfl⟩

theorem Chain.app {s s1 s2 : Sg} {L M : List Chg} (h : Chain s s1 L) (k : Chain s1 s2 M) : Chain s s2 (L ++ M) := by
  refine ⟨fun key o ho => ?_, fun key n hn => ?_, fun k0 hk hno => ?_⟩
  · rw [firstO_append] at ho
    cases h1 : firstO L key with
    | some o' => rw [h1] at ho; cases ho; exact h.a key _ h1
    | none =>
      rw [h1] at ho
      obtain ⟨k0, hk, rfl, rfl⟩ := k.a key o ho
      exact ⟨k0, hk, rfl, h.c k0 hk h1⟩
  · rw [lastN_append] at hn
    cases h1 : lastN M key with
    | some n' => rw [h1] at hn; cases hn; exact k.b key _ h1
    | none =>
      rw [h1] at hn
      obtain ⟨k0, hk, rfl, rfl⟩ := h.b key n hn
      exact ⟨k0, hk, rfl, (k.c k0 hk (none_of.2 h1)).symm⟩
  · rw [firstO_append] at hno
    cases h1 : firstO L (ck k0) with
    | some o => rw [h1] at hno; cases hno
    | none =>
      rw [h1] at hno
      rw [k.c k0 hk hno, h.c k0 hk h1]

theorem Chain.one {s s' : Sg} {k : Key2} (hk : InR k) (hs : ∀ k', InR k' → k' ≠ k → s' k' = s k') : Chain s s' [⟨tblB k.1, (k.2 : Int), s k, s' k⟩] := by
  refine ⟨fun key o ho => ?_, fun key n hn => ?_, fun k0 hk0 hno => ?_⟩
  · rw [firstO_one] at ho
    split at ho
    · rename_i e; cases ho; exact ⟨k, hk, e.symm, rfl⟩
    · cases ho
  · rw [lastN_one] at hn
    split at hn
    · rename_i e; cases hn; exact ⟨k, hk, e.symm, rfl⟩
    · cases hn
  · rw [firstO_one] at hno
    split at hno
    · cases hno
    · rename_i e
      exact hs k0 hk0 fun e' => e (by subst e'; rfl)

/-- How rows differ: rising, just those that do. -/
structure Diff (s s' : Sg) (N : List Chg) : Prop where
  rise : N.Pairwise (fun a b => keyLt a.key b.key)
  mem : ∀ c, c ∈ N ↔ ∃ k, InR k ∧ c = ⟨tblB k.1, (k.2 : Int), s k, s' k⟩ ∧ s k ≠ s' k

theorem Diff.uniq {s s' : Sg} {N M : List Chg} (h : Diff s s' N) (k : Diff s s' M) : N = M := net_rising h.rise k.rise fun c => (h.mem c).trans (k.mem c).symm

theorem Diff.none {s : Sg} {N : List Chg} (h : Diff s s N) : N = [] := by
  cases N with
  | nil => rfl
  | cons c N =>
    obtain ⟨k, _, _, hne⟩ := (h.mem c).1 (by simp)
    exact absurd rfl hne

theorem Chain.net {s s' : Sg} {L N : List Chg} (h : Chain s s' L) (hn : IsNet L N) : Diff s s' N := by
  refine ⟨hn.rise, fun c => ?_⟩
  rw [hn.mem]
  constructor
  · rintro ⟨h1, h2, h3⟩
    obtain ⟨k, hk, ek, eo⟩ := h.a _ _ h1
    obtain ⟨k', hk', ek', en⟩ := h.b _ _ h2
    have : k = k' := ck_inj hk hk' (ek.symm.trans ek')
    subst this
    obtain ⟨t, i, o, n⟩ := c
    simp only [Chg.key, ck, Prod.mk.injEq] at ek
    obtain ⟨rfl, rfl⟩ := ek
    simp only at eo en h3
    subst eo; subst en
    exact ⟨k, hk, rfl, h3⟩
  · rintro ⟨k, hk, rfl, hne⟩
    have hkey : Chg.key ⟨tblB k.1, (k.2 : Int), s k, s' k⟩ = ck k := rfl
    rw [hkey]
    cases h1 : firstO L (ck k) with
    | none => exact absurd (h.c k hk h1).symm hne
    | some o =>
      obtain ⟨k1, hk1, e1, eo⟩ := h.a _ _ h1
      have := ck_inj hk hk1 e1
      subst this
      cases h2 : lastN L (ck k) with
      | none => rw [none_of.2 h2] at h1; cases h1
      | some n =>
        obtain ⟨k2, hk2, e2, en⟩ := h.b _ _ h2
        have := ck_inj hk hk2 e2
        subst this
        exact ⟨by rw [eo], by rw [en], hne⟩

theorem rising_find {N : List Chg} (hp : N.Pairwise (fun a b => keyLt a.key b.key)) {c : Chg} (hc : c ∈ N) {key : ByteArray × Int} (hk : c.key = key) : ∀ {d}, d ∈ N → d.key = key → d = c := by
  intro d hd hdk
  obtain ⟨i, hi, ei⟩ := List.getElem_of_mem hc
  obtain ⟨j, hj, ej⟩ := List.getElem_of_mem hd
  rw [List.pairwise_iff_getElem] at hp
  rcases Nat.lt_trichotomy i j with h | h | h
  · have := hp i j hi hj h; rw [ei, ej, hk, hdk] at this; exact absurd this (keyLt_irrefl _)
  · subst h; rw [← ei, ← ej]
  · have := hp j i hj hi h; rw [ei, ej, hk, hdk] at this; exact absurd this (keyLt_irrefl _)

/-- How rows differ is a chain itself. -/
theorem Diff.chain {s s' : Sg} {N : List Chg} (h : Diff s s' N) : Chain s s' N := by
  refine ⟨fun key o ho => ?_, fun key n hn => ?_, fun k hk hno => ?_⟩
  · unfold firstO at ho
    obtain ⟨c, hc, rfl⟩ := Option.map_eq_some_iff.1 ho
    obtain ⟨k, hk, rfl, _⟩ := (h.mem c).1 (List.mem_of_find?_eq_some hc)
    exact ⟨k, hk, (isK_iff.1 (List.find?_some (p := fun x : Chg => x.isK key) hc)).symm, rfl⟩
  · unfold lastN at hn
    obtain ⟨c, hc, rfl⟩ := Option.map_eq_some_iff.1 hn
    obtain ⟨k, hk, rfl, _⟩ := (h.mem c).1 (by simpa using List.mem_of_find?_eq_some hc)
    exact ⟨k, hk, (isK_iff.1 (List.find?_some (p := fun x : Chg => x.isK key) hc)).symm, rfl⟩
  · by_cases hne : s k = s' k
    · exact hne.symm
    · have hm := (h.mem ⟨tblB k.1, (k.2 : Int), s k, s' k⟩).2 ⟨k, hk, rfl, hne⟩
      unfold firstO at hno
      rw [Option.map_eq_none_iff, List.find?_eq_none] at hno
      exact absurd (isK_iff.2 rfl) (hno _ hm)

def sg (st : St) : Sg := fun k => (getS st k).m

theorem op_key (o : OpD) : InR o.key := ⟨Nat.mod_lt _ (by decide), Nat.mod_lt _ (by decide)⟩

theorem sg_set (st : St) (k : Key2) (v : SV) (k' : Key2) : sg (setS st k v) k' = if k = k' then v.m else sg st k' := by
  unfold sg; rw [getS_set]; split <;> rfl

theorem step_chain (st : St) (o : OpD) : Chain (sg st) (sg (setS st o.key o.s)) [(mkX (getS st o.key) o.key o.s).2] := by
  have := Chain.one (s := sg st) (s' := sg (setS st o.key o.s)) (op_key o) fun k' _ hne => by rw [sg_set, if_neg fun e => hne e.symm]
  rwa [sg_set, if_pos rfl] at this

theorem chg_chain (l : List OpD) : ∀ st, Chain (sg st) (sg (chgS st l)) ((chgL st l).map (·.2)) := by
  induction l with
  | nil => intro st; exact Chain.nil _
  | cons o l ih => intro st; exact (step_chain st o).app (ih _)

def Chg.turn (c : Chg) : Chg := ⟨c.t, c.id, c.n, c.o⟩

theorem turn_chain (st : St) (o : OpD) : Chain (sg (setS st o.key o.s)) (sg st) [(mkX (getS st o.key) o.key o.s).2.turn] := by
  have := Chain.one (s := sg (setS st o.key o.s)) (s' := sg st) (op_key o) fun k' _ hne => by rw [sg_set, if_neg fun e => hne e.symm]
  rwa [sg_set, if_pos rfl] at this

theorem turns_chain (l : List OpD) : ∀ st, Chain (sg (chgS st l)) (sg st) (((chgL st l).map (·.2.turn)).reverse) := by
  induction l with
  | nil => intro st; exact Chain.nil _
  | cons o l ih =>
    intro st
    show Chain _ _ (List.reverse (_ :: _))
    rw [List.reverse_cons]
    exact (ih _).app (turn_chain st o)

theorem chgL_append (l m : List OpD) : ∀ st, chgL st (l ++ m) = chgL st l ++ chgL (chgS st l) m := by
  induction l with
  | nil => intro st; rfl
  | cons o l ih => intro st; show _ :: chgL _ (l ++ m) = _; rw [ih]; rfl
end Go.Proofs.Ytmcbpopeinabcaa
