/-
  Tree: pages given back; a tree that may be taken from stays one when it is put into. Of no program's text.
-/
import Derived.Test.YtfdfamjajhmihaaGreatMBD
namespace Go.Proofs.YtfdfamjajhmihaaGreat
open Go.RowKit
open L4 (Abs)
open L5 (ltP ltB leB)

def frees (a : Abs) (G : List Nat) : Abs := G.foldl (fun a n => a.free n) a

theorem free_other {a : Abs} {n p : Nat} (hp : p ≠ n) (hn : 1 ≤ n) : (a.free n).at (p : Int) = a.at (p : Int) := by
  have : (a.free n).at (p : Int) = (a.lay n none).at (p : Int) := rfl
  rw [this, at_lay_ne hp hn]

theorem frees_other (G : List Nat) : ∀ {a : Abs} {p : Nat}, (∀ n ∈ G, 1 ≤ n) → p ∉ G → (frees a G).at (p : Int) = a.at (p : Int) := by
  induction G with
  | nil => intro a p _ _; rfl
  | cons n G ih =>
    intro a p h1 h2
    show (frees (a.free n) G).at (p : Int) = _
    rw [ih (fun m hm => h1 m (by simp [hm])) (fun h => h2 (by simp [h])), free_other (fun e => h2 (by simp [e])) (h1 n (by simp))]

theorem used_pos {a : Abs} (ho : a.Ok) {n : Nat} {c : List UInt8} (h : a.at (n : Int) = some c) : 1 ≤ a.used := by
  obtain ⟨_, h2, h3⟩ := L4.Abs.at_some h
  have hlt : a.pg.countP Option.isNone < a.pg.length := by
    rcases Nat.lt_or_ge (a.pg.countP Option.isNone) a.pg.length with e | e
    · exact e
    · have := List.countP_eq_length.1 (Nat.le_antisymm List.countP_le_length e) _ (List.mem_of_getElem? h3)
      simp at this
  rw [ho.count] at hlt
  unfold L4.Abs.used
  omega

theorem free_used1 {a : Abs} (ho : a.Ok) {n : Nat} {c : List UInt8} (h : a.at (n : Int) = some c) : (a.free n).used + 1 = a.used := by
  have h1 := used_pos ho h
  have e1 : (a.free n).pg.length = a.pg.length := by simp [L4.Abs.free, L4.Abs.lay]
  have e2 : (a.free n).fr.length = a.fr.length + 1 := by simp [L4.Abs.free, L4.Abs.lay]
  unfold L4.Abs.used at h1 ⊢
  rw [e1, e2]
  omega

theorem frees_ok (G : List Nat) : ∀ {a : Abs}, a.Ok → G.Nodup → (∀ n ∈ G, ∃ c, a.at (n : Int) = some c) → (frees a G).Ok ∧ (frees a G).q = a.q ∧ (frees a G).used + G.length = a.used := by
  induction G with
  | nil => intro a ho _ _; exact ⟨ho, rfl, rfl⟩
  | cons n G ih =>
    intro a ho hd hG
    obtain ⟨c, hc⟩ := hG n (by simp)
    rw [List.nodup_cons] at hd
    have ho' : (a.free n).Ok := by
      have := ho.free hc
      simpa using this
    obtain ⟨g1, g2, g3⟩ := ih ho' hd.2 fun m hm => by
      obtain ⟨c', hc'⟩ := hG m (by simp [hm])
      have hne : m ≠ n := fun e => hd.1 (by rw [← e]; exact hm)
      exact ⟨c', by rw [free_other hne (at_pos hc)]; exact hc'⟩
    have g4 := free_used1 ho hc
    refine ⟨g1, g2, ?_⟩
    show (frees (a.free n) G).used + (G.length + 1) = a.used
    omega

/-- A tree's pages become fewer: no page of anybody else's is touched. -/
structure Shrunk (a A : Abs) (old new : List Nat) : Prop where
  ok : A.Ok
  q : A.q = a.q
  nodup : new.Nodup
  sub : ∀ p ∈ new, p ∈ old
  frame : ∀ p : Nat, p ∉ old → (∃ c, a.at (p : Int) = some c) → A.at (p : Int) = a.at (p : Int)
  used : A.used + old.length = a.used + new.length

theorem Ruly.frame {a a' : Abs} {r : Nat} {ps : List Nat} (k : Ruly a r ps) (hr : r ∈ ps) (hp : ∀ p ∈ ps, a'.at (p : Int) = a.at (p : Int)) : Ruly a' r ps :=
  ⟨k.lush.imp id fun h p h2 => (h p h2).same (hp p h2), fun n hn => k.root n ⟨(hp r hr).symm.trans hn.page, hn.shaped, hn.size, hn.small⟩⟩

/-- A deletion, with the pages given back. -/
theorem del_tree {a : Abs} {k : ByteArray} {h r : Nat} {es : List ByteArray} {ps : List Nat} {pre : List Pl} {y : Pl} {lo hi : ByteArray} {fL fR : List ByteArray} {qO : List Nat} (f : Found a k h r es ps pre y lo hi fL fR qO) (ho : a.Ok) (hnd : ps.Nodup) (hpg : ∀ p ∈ ps, ∃ c, a.at (p : Int) = some c) (hm : k ∈ es) (hr : Ruly a r ps) {n : L5.No} (hn : n = ⟨y.n.leaf, delK k y.n.recs, y.n.kids⟩) {L : List (Nat × L5.No)} {G : List Nat} {r' h' : Nat} (d : Dels a pre.reverse y.at_ n r h L G r' h') :
    ∃ ps', Sub (frees (laidL a L) G) h' r' e0 e0 (delK k es) ps' ∧ Shrunk a (frees (laidL a L) G) ps ps' ∧ Ruly (frees (laidL a L) G) r' ps' ∧ G.Nodup ∧ (∀ p ∈ G, ∃ c, (laidL a L).at (p : Int) = some c) ∧ (∀ z ∈ L, z.2.shaped = true ∧ z.2.size ≤ 1024 ∧ ∃ c, a.at (z.1 : Int) = some c) := by
  obtain ⟨ps', g1, g2, g3, g4⟩ := del_law f hnd hm hr hn d
  have hthere : ∀ z ∈ L, ∃ c, a.at (z.1 : Int) = some c := fun z hz => hpg _ (g4 z hz).2.2
  obtain ⟨k1, k2, k3⟩ := laidL_ok L ho hthere fun z hz => (g4 z hz).2.1
  have hnd2 := g2.nodup_iff.1 hnd
  rw [List.nodup_append] at hnd2
  have hG : ∀ p ∈ G, ∃ c, (laidL a L).at (p : Int) = some c := fun p hp => laidL_there L hthere (hpg p (g2.mem_iff.2 (by simp [hp])))
  have hpos : ∀ p ∈ G, 1 ≤ p := fun p hp => by
    obtain ⟨c, hc⟩ := hG p hp
    exact at_pos hc
  obtain ⟨j1, j2, j3⟩ := frees_ok G k1 hnd2.2.1 hG
  have fr : ∀ p ∈ ps', (frees (laidL a L) G).at (p : Int) = (laidL a L).at (p : Int) := fun p hp => frees_other G hpos fun h => hnd2.2.2 p hp p h rfl
  refine ⟨ps', g1.frame fr, ⟨j1, j2.trans k3, hnd2.1, fun p hp => g2.mem_iff.2 (by simp [hp]), fun p hp _ => ?_, ?_⟩, g3.frame g1.tall.2.2 fr, hnd2.2.1, hG, fun z hz => ⟨(g4 z hz).1, (g4 z hz).2.1, hthere z hz⟩⟩
  · rw [frees_other G hpos fun h => hp (g2.mem_iff.2 (by simp [h])), laidL_other L hthere fun z hz e => hp (by rw [← e]; exact (g4 z hz).2.2)]
  · have := g2.length_eq
    simp at this
    omega

/-- What an insertion turns has entries. -/
theorem grows_turn : ∀ (ups : List Pl) {a : Abs} {at_ : Nat} {n : L5.No} {c : List UInt8}, a.Ok → ups.length + 2 ≤ a.left → GrowOk ups a at_ n → n.recs ≠ [] → a.at (at_ : Int) = some c → (∀ u ∈ ups, ∃ c, a.at (u.at_ : Int) = some c) → ∀ p : Nat, (∃ c, (grows ups a at_ n).1.at (p : Int) = some c) → (grows ups a at_ n).1.at (p : Int) ≠ a.at (p : Int) → Good (grows ups a at_ n).1 p := by
  intro ups
  induction ups with
  | nil =>
    intro a at_ n c ho hl hG hne hat hus p hp hch
    by_cases hx : p = at_ ∨ a.at (p : Int) = none
    · refine grows_good [] ho hl hG hne hat hus p ?_
      rcases hx with hx | hx
      · exact Or.inr (Or.inl hx)
      · exact Or.inr (Or.inr ⟨hx, hp⟩)
    · exfalso
      have h1 : p ≠ at_ := fun e => hx (Or.inl e)
      have h2 : a.at (p : Int) ≠ none := fun e => hx (Or.inr e)
      apply hch
      obtain ⟨hs, _, hd⟩ := hG
      by_cases hf : n.size ≤ 1024
      · rw [grows, if_pos hf]
        exact at_lay_ne h1 (at_pos hat) _
      · obtain ⟨hc, hr1, hr2⟩ := hd.resolve_left hf
        obtain ⟨n1, n2⟩ := next_pos ho
        obtain ⟨⟨z, a1⟩, a2⟩ := at_alloc ho
        have ok1 := (ho.alloc (by omega)).1
        have hnx : a.next ≠ at_ := fun e => by rw [e, hat] at n2; cases n2
        have hat1 : a.alloc.at (at_ : Int) = some c := by rw [a2 at_ (fun e => hnx e.symm)]; exact hat
        have hnx1 : (layN a.alloc at_ (n.lo n.cut)).at (a.next : Int) = some z := by unfold layN; rw [at_lay_ne hnx (at_pos hat)]; exact a1
        have ok3 := layN_ok (n := n.hi n.cut) (layN_ok (n := n.lo n.cut) ok1 hat1 hc.lo.2.1) hnx1 hc.hi.2.1
        have e2 : p ≠ a.next := fun e => h2 (by rw [e]; exact n2)
        have oth : (layN (layN a.alloc at_ (n.lo n.cut)) a.next (n.hi n.cut)).at (p : Int) = a.at (p : Int) := by
          unfold layN
          rw [at_lay_ne e2 n1, at_lay_ne h1 (at_pos hat), a2 p e2]
        rw [grows, if_neg hf]
        generalize layN (layN a.alloc at_ (n.lo n.cut)) a.next (n.hi n.cut) = a1' at *
        obtain ⟨y1, y2⟩ := next_pos ok3
        obtain ⟨⟨z', b1⟩, b2⟩ := at_alloc ok3
        have e3 : p ≠ a1'.next := fun e => h2 (by rw [← oth, e]; exact y2)
        show (layN a1'.alloc a1'.next _).at (p : Int) = _
        unfold layN
        rw [at_lay_ne e3 y1, b2 p e3, oth]
  | cons u us ih =>
    intro a at_ n c ho hl hG hne hat hus p hp hch
    by_cases hx : p = at_ ∨ a.at (p : Int) = none
    · refine grows_good (u :: us) ho hl hG hne hat hus p ?_
      rcases hx with hx | hx
      · exact Or.inr (Or.inl hx)
      · exact Or.inr (Or.inr ⟨hx, hp⟩)
    · have h1 : p ≠ at_ := fun e => hx (Or.inl e)
      have h2 : a.at (p : Int) ≠ none := fun e => hx (Or.inr e)
      obtain ⟨hs, _, hd⟩ := hG
      by_cases hf : n.size ≤ 1024
      · exfalso
        apply hch
        rw [grows, if_pos hf]
        exact at_lay_ne h1 (at_pos hat) _
      · obtain ⟨hc, _, _, _, hG'⟩ := hd.resolve_left hf
        obtain ⟨n1, n2⟩ := next_pos ho
        obtain ⟨⟨z, a1⟩, a2⟩ := at_alloc ho
        have ok1 := (ho.alloc (by omega)).1
        have hnx : a.next ≠ at_ := fun e => by rw [e, hat] at n2; cases n2
        have hat1 : a.alloc.at (at_ : Int) = some c := by rw [a2 at_ (fun e => hnx e.symm)]; exact hat
        have hnx1 : (layN a.alloc at_ (n.lo n.cut)).at (a.next : Int) = some z := by unfold layN; rw [at_lay_ne hnx (at_pos hat)]; exact a1
        have e : grows (u :: us) a at_ n = grows us (layN (layN a.alloc at_ (n.lo n.cut)) a.next (n.hi n.cut)) u.at_ (addK u (sepOf n) a.next) := by rw [grows, if_neg hf]
        rw [e] at hp hch ⊢
        have ok3 := layN_ok (n := n.hi n.cut) (layN_ok (n := n.lo n.cut) ok1 hat1 hc.lo.2.1) hnx1 hc.hi.2.1
        have hlf : (layN (layN a.alloc at_ (n.lo n.cut)) a.next (n.hi n.cut)).left = a.left - 1 := by rw [(layN_used _ _ _).2.2, (layN_used _ _ _).2.2, left_alloc ho]
        have oth : ∀ p : Nat, p ≠ at_ → p ≠ a.next → (layN (layN a.alloc at_ (n.lo n.cut)) a.next (n.hi n.cut)).at (p : Int) = a.at (p : Int) := fun p h1 h2 => by
          unfold layN
          rw [at_lay_ne h2 n1, at_lay_ne h1 (at_pos hat), a2 p h2]
        have hatA : (layN (layN a.alloc at_ (n.lo n.cut)) a.next (n.hi n.cut)).at (at_ : Int) = some (L5.pageL (n.lo n.cut).toNd) := by
          show ((layN a.alloc at_ (n.lo n.cut)).lay a.next _).at (at_ : Int) = _
          rw [at_lay_ne (fun e => hnx e.symm) n1]
          exact at_lay_same hat1 _
        generalize layN (layN a.alloc at_ (n.lo n.cut)) a.next (n.hi n.cut) = a1' at *
        have use1 : ∀ q : Nat, (∃ c, a.at (q : Int) = some c) → ∃ c, a1'.at (q : Int) = some c := fun q ⟨c', hq⟩ => by
          by_cases e1 : q = at_
          · subst e1; exact ⟨_, hatA⟩
          · have e2 : q ≠ a.next := fun e => by rw [e, n2] at hq; cases hq
            exact ⟨c', by rw [oth q e1 e2]; exact hq⟩
        obtain ⟨cu, hcu⟩ := use1 u.at_ (hus u (by simp))
        have e2 : p ≠ a.next := fun e => h2 (by rw [e]; exact n2)
        refine ih ok3 (by simp at hl; omega) hG' (by simp [addK]) hcu (fun v hv => use1 v.at_ (hus v (by simp [hv]))) p hp ?_
        rw [oth p h1 e2]
        exact hch

theorem Good.lush {a : Abs} {p : Nat} (h : Good a p) : Lush a p := fun n hn _ => by
  obtain ⟨m, h1, h2⟩ := h
  rw [hn.uniq h1]
  exact h2

theorem Good.kids {a : Abs} {p : Nat} (h : Good a p) : ∀ n, Holds a p n → n.kids.length ≠ 1 := fun n hn => by
  obtain ⟨m, h1, h2⟩ := h
  have e := hn.uniq h1
  subst e
  cases hl : n.leaf with
  | true => rw [shaped_leaf hn.shaped hl]; simp
  | false =>
    rw [(shaped_kids hn.shaped hl).2]
    intro e
    exact h2 (List.length_eq_zero_iff.1 (by omega))

/-- What is put into stays a tree that may be taken from. -/
theorem ruly_ins {a A : Abs} {r r' at_ : Nat} {ps ps' : List Nat} (k : Ruly a r ps) (hch : ∀ p : Nat, (∃ c, A.at (p : Int) = some c) → A.at (p : Int) ≠ a.at (p : Int) → Good A p) (hat : Good A at_) (h1 : at_ ∈ ps) (hps : ∀ p ∈ ps', ∃ c, A.at (p : Int) = some c) (hfr : ∀ p ∈ ps', p ∈ ps ∨ a.at (p : Int) = none) (hr : r' ∈ ps') (hrr : r' = r ∨ a.at (r' : Int) = none) : Ruly A r' ps' := by
  have key : ∀ p ∈ ps', A.at (p : Int) = a.at (p : Int) ∨ Good A p := fun p hp => by
    by_cases e : A.at (p : Int) = a.at (p : Int)
    · exact Or.inl e
    · exact Or.inr (hch p (hps p hp) e)
  refine ⟨Or.inr fun p hp => ?_, fun n hn => ?_⟩
  · rcases key p hp with e | e
    · rcases hfr p hp with hq | hq
      · rcases k.lush with hl | hl
        · have : p = at_ := by
            cases ps with
            | nil => cases hq
            | cons z l =>
              have hl0 : l = [] := List.length_eq_zero_iff.1 (by simpa using hl)
              subst hl0
              simp at hq h1
              rw [hq, h1]
          rw [this]
          exact hat.lush
        · exact (hl p hq).same e
      · obtain ⟨c, hc⟩ := hps p hp
        rw [e, hq] at hc; cases hc
    · exact e.lush
  · rcases key r' hr with e | e
    · rcases hrr with rfl | hq
      · exact k.root n ⟨e.symm.trans hn.page, hn.shaped, hn.size, hn.small⟩
      · rw [hn.page] at e
        rw [hq] at e; cases e
    · exact e.kids n hn
end Go.Proofs.YtfdfamjajhmihaaGreat
/-
  Tree: what a deletion asks of the nodes above, and of those that the root gives way to; plain. Of no program's text.
-/
namespace Go.Proofs.YtfdfamjajhmihaaGreat
open Go.RowKit
open L4 (Abs)
open L5 (ltP ltB leB)

/-- A neighbour on either side. -/
def Beside (a : Abs) (u : Pl) (lf : Bool) : Prop :=
  (1 ≤ u.kid → ∃ (c : Nat) (m : L5.No) (sep : ByteArray), u.n.recs[u.kid - 1]? = some sep ∧ u.n.kids[u.kid - 1]? = some (c : Int) ∧ Holds a c m ∧ m.leaf = lf) ∧
  (u.kid < u.n.recs.length → ∃ (c : Nat) (m : L5.No) (sep : ByteArray), u.n.recs[u.kid]? = some sep ∧ u.n.kids[u.kid + 1]? = some (c : Int) ∧ Holds a c m ∧ m.leaf = lf)

/-- The nodes above one. -/
def UpsOk (a : Abs) : List Pl → Nat → Bool → Prop
  | [], _, _ => True
  | u :: us, at_, lf => (u.n.leaf = false ∧ u.n.shaped = true ∧ u.n.size ≤ 1024 ∧ u.n.kids[u.kid]? = some (at_ : Int) ∧ u.kid ≤ u.n.recs.length ∧ Beside a u lf) ∧ UpsOk a us u.at_ false

theorem Sub.leaf_of {a : Abs} {h c : Nat} {lo hi : ByteArray} {es : List ByteArray} {ps : List Nat} (k : Sub a h c lo hi es ps) : ∃ m, Holds a c m ∧ m.leaf = decide (h = 1) := by
  cases h with
  | zero => exact k.elim
  | succ h =>
    obtain ⟨m, ps', hm, _, hb⟩ := k
    refine ⟨m, hm, ?_⟩
    rcases hb.2 with ⟨e, hl, _⟩ | ⟨e, hl, _⟩
    · subst e; simpa using hl
    · rw [hl]; symm; simpa using e

theorem ups_of {a : Abs} {H R : Nat} {us : List Pl} {h at_ : Nat} {lo hi : ByteArray} {esL esR : List ByteArray} {psO : List Nat} (k : Ctx a H R us h at_ lo hi esL esR psO) : UpsOk a us at_ (decide (h = 1)) := by
  induction k with
  | root => trivial
  | @up u us h at_ lo hi lo' hi' rl rr esl esr esL esR kl kr psl psr psO hn hl hb er ek e1 e2 hh hL hR t ih =>
    have hlen := (shaped_kids hn.shaped hl).2
    have hkl := hL.len
    refine ⟨⟨hl, hn.shaped, hn.size, ?_, ?_, ?_, ?_⟩, ?_⟩
    · rw [ek, ← e2, List.getElem?_append_right (Nat.le_refl _)]; simp
    · rw [er]; simp; omega
    · intro h1
      have hne : kl ≠ [] := by intro e; rw [e] at e2; simp at e2; omega
      obtain ⟨rl', kl', c, lo2, es1, es2, ps1, ps2, q1, q2, q3, q4, q5, q6⟩ := hL.last hne
      obtain ⟨m, hm, hml⟩ := q4.leaf_of
      refine ⟨c, m, lo', ?_, ?_, hm, hml⟩
      · rw [er, q1, List.append_assoc, List.getElem?_append_right (by rw [q1] at e1; simp at e1; omega)]
        rw [q1] at e1; simp at e1
        rw [show u.kid - 1 - rl'.length = 0 by omega]; simp
      · rw [ek, q2, List.append_assoc, List.getElem?_append_right (by rw [q2] at e2; simp at e2; omega)]
        rw [q2] at e2; simp at e2
        rw [show u.kid - 1 - kl'.length = 0 by omega]; simp
    · intro h1
      have hne : rr ≠ [] := by intro e; rw [er, e] at h1; simp at h1; omega
      obtain ⟨rs, c, cs, hi3, es1, es2, ps1, ps2, q1, q2, q3, _⟩ := hR.first hne
      obtain ⟨m, hm, hml⟩ := q3.leaf_of
      refine ⟨c, m, hi', ?_, ?_, hm, hml⟩
      · rw [er, q1, ← e1, List.getElem?_append_right (Nat.le_refl _)]; simp
      · rw [ek, q2, ← e2, List.getElem?_append_right (by omega)]
        rw [show kl.length + 1 - kl.length = 1 by omega]; simp
    · have e : decide (h + 1 = 1) = false := by simpa using hh
      rw [e] at ih
      exact ih

/-- The node of a page, as it will be. -/
def NodeAt (a : Abs) (L : List (Nat × L5.No)) (c : Nat) (m : L5.No) : Prop := (∃ L1 L2, L = L1 ++ (c, m) :: L2 ∧ ∀ y ∈ L1, y.1 ≠ c) ∨ ((∀ y ∈ L, y.1 ≠ c) ∧ Holds a c m)

theorem NodeAt.stl {a : Abs} {L : List (Nat × L5.No)} {c : Nat} {m : L5.No} (h : NodeAt a L c m) : (∃ y ∈ L, y.1 = c ∧ y.2 = m) ∨ ((∀ y ∈ L, y.1 ≠ c) ∧ Holds a c m) := by
  rcases h with ⟨L1, L2, rfl, _⟩ | h
  · exact Or.inl ⟨(c, m), by simp, rfl, rfl⟩
  · exact Or.inr h

/-- What a root may give way to, however often. -/
def SetOk (a : Abs) (L : List (Nat × L5.No)) (R : Nat) : Nat → L5.No → Prop
  | 0, n => n.kids.length ≠ 1
  | h + 1, n => ∀ c, n.kids = [c] → ∃ (p : Nat) (m : L5.No), c = (p : Int) ∧ p ≠ R ∧ NodeAt a L p m ∧ m.small ∧ m.shaped = true ∧ m.size ≤ 1024 ∧ m.leaf = decide (h = 0) ∧ SetOk a L R h m

theorem first_of {c : Nat} : ∀ {L : List (Nat × L5.No)}, (∃ y ∈ L, y.1 = c) → ∃ m L1 L2, L = L1 ++ (c, m) :: L2 ∧ ∀ y ∈ L1, y.1 ≠ c
  | [], ⟨y, hy, _⟩ => by cases hy
  | z :: L, h => by
    by_cases e : z.1 = c
    · exact ⟨z.2, [], L, by rw [← e]; rfl, fun y hy => by cases hy⟩
    · obtain ⟨m, L1, L2, h1, h2⟩ := first_of (L := L) (by
        obtain ⟨y, hy, hc⟩ := h
        rcases List.mem_cons.1 hy with rfl | hy
        · exact absurd hc e
        · exact ⟨y, hy, hc⟩)
      exact ⟨m, z :: L1, L2, by rw [h1]; rfl, fun y hy => by
        rcases List.mem_cons.1 hy with rfl | hy
        · exact e
        · exact h2 y hy⟩

theorem node_at {a : Abs} {L : List (Nat × L5.No)} (h1 : ∀ y ∈ L, ∃ c, a.at (y.1 : Int) = some c) (h2 : (L.map Prod.fst).Nodup) (h3 : ∀ y ∈ L, y.2.shaped = true ∧ y.2.size ≤ 1024) {c : Nat} {m : L5.No} (hm : Holds (laidL a L) c m) : NodeAt a L c m := by
  by_cases h : ∃ y ∈ L, y.1 = c
  · left
    obtain ⟨m', L1, L2, e, hn⟩ := first_of h
    have hmem : (c, m') ∈ L := by rw [e]; simp
    have hz := h3 _ hmem
    have hh : Holds (laidL a L) c m' := ⟨laidL_at L h1 h2 hmem, hz.1, hz.2, small_of hz.1 (Nat.le_trans hz.2 (by decide))⟩
    rw [hm.uniq hh]
    exact ⟨L1, L2, e, hn⟩
  · right
    have hn : ∀ y ∈ L, y.1 ≠ c := fun y hy e => h ⟨y, hy, e⟩
    exact ⟨hn, ⟨(laidL_other L h1 hn).symm.trans hm.page, hm.shaped, hm.size, hm.small⟩⟩

theorem set_of {a A : Abs} {L : List (Nat × L5.No)} {R : Nat} (hA : ∀ c m, Holds A c m → NodeAt a L c m) : ∀ {h : Nat} {n : L5.No} {lo hi : ByteArray} {es : List ByteArray} {ps : List Nat}, Body (Sub A h) h n lo hi es ps → n.shaped = true → R ∉ ps → SetOk a L R h n
  | 0, n, lo, hi, es, ps, hb, hs, _ => by
    rcases hb.2 with ⟨_, hl, _⟩ | ⟨e, _⟩
    · show n.kids.length ≠ 1
      rw [shaped_leaf hs hl]; decide
    · exact absurd rfl e
  | h + 1, n, lo, hi, es, ps, hb, hs, hR => by
    intro c hk
    rcases hb.2 with ⟨e, _⟩ | ⟨_, hlf, hsu⟩
    · omega
    · have hrs : n.recs = [] := by
        have := hsu.len
        rw [hk] at this
        exact List.length_eq_zero_iff.1 (by simpa using this.symm)
      rw [hk, hrs] at hsu
      obtain ⟨c', hc', hP⟩ : ∃ c' : Nat, c = (c' : Int) ∧ Sub A (h + 1) c' lo hi es ps := by
        generalize hcc : ([c] : List Int) = l at hsu
        cases hsu with
        | @one _ c' _ _ hP =>
          simp at hcc
          exact ⟨c', hcc, hP⟩
      obtain ⟨m, ps', hm, rfl, hbm⟩ := hP
      refine ⟨c', m, hc', fun e => hR (by simp [e]), hA _ _ hm, hm.small, hm.shaped, hm.size, ?_, set_of hA hbm hm.shaped fun e => hR (by simp [e])⟩
      rcases hbm.2 with ⟨e, hl, _⟩ | ⟨e, hl, _⟩
      · subst e; simpa using hl
      · rw [hl]; symm; simpa using e

/-- What a deletion comes to: what is laid and given back beyond what was, and the head. -/
def DelR (a : Abs) (ups : List Pl) (at_ : Nat) (n : L5.No) (xr xh : Nat) (LD : List (Nat × L5.No)) (GD : List Nat) (LD' : List (Nat × L5.No)) (GD' : List Nat) (xr' xh' : Nat) : Prop :=
  (∃ L G, Shr a ups at_ n L G none ∧ LD' = LD ++ L ∧ GD' = GD ++ G ∧ xr' = xr ∧ xh' = xh) ∨
  ∃ L1 G1 G2 n1 n2 hr, Shr a ups at_ n L1 G1 (some (xr, n1)) ∧ Stl a (LD ++ L1) (xh - 1) xr n1 G2 xr' n2 hr ∧ GD' = GD ++ (G1 ++ G2) ∧ xh' = hr + 1 ∧ LD' = if xr' = xr then LD ++ L1 ++ [(xr, n2)] else LD ++ L1

theorem DelR.dels {a : Abs} {ups : List Pl} {at_ : Nat} {n : L5.No} {xr xh : Nat} {L : List (Nat × L5.No)} {G : List Nat} {xr' xh' : Nat} (d : DelR a ups at_ n xr xh [] [] L G xr' xh') : Dels a ups at_ n xr xh L G xr' xh' := by
  rcases d with ⟨L1, G1, s, rfl, rfl, rfl, rfl⟩ | ⟨L1, G1, G2, n1, n2, hr, s, st, rfl, rfl, hL⟩
  · exact Or.inl ⟨by simpa using s, rfl, rfl⟩
  · exact Or.inr ⟨L1, G1, G2, n1, n2, hr, s, by simpa using st, by simp, rfl, by simpa using hL⟩

/-- One step up. -/
theorem DelR.step {a : Abs} {u : Pl} {us : List Pl} {at_ : Nat} {n c : L5.No} {xr xh : Nat} {LD LD' y : List (Nat × L5.No)} {GD GD' : List Nat} {z xr' xh' : Nat} (d : DelR a us u.at_ c xr xh (LD ++ y) (GD ++ [z]) LD' GD' xr' xh') (hs : ∀ L G o, Shr a us u.at_ c L G o → Shr a (u :: us) at_ n (y ++ L) (z :: G) o) : DelR a (u :: us) at_ n xr xh LD GD LD' GD' xr' xh' := by
  rcases d with ⟨L1, G1, s, rfl, rfl, rfl, rfl⟩ | ⟨L1, G1, G2, n1, n2, hr, s, st, rfl, rfl, hL⟩
  · exact Or.inl ⟨_, _, hs _ _ _ s, by simp, by simp, rfl, rfl⟩
  · refine Or.inr ⟨_, _, G2, n1, n2, hr, hs _ _ _ s, by simpa using st, by simp, rfl, ?_⟩
    rw [hL]
    simp

/-- The law of the way up, where a leaf was found. -/
theorem shr_found {a : Abs} {k : ByteArray} {h r : Nat} {es : List ByteArray} {ps : List Nat} {pre : List Pl} {y : Pl} {lo hi : ByteArray} {fL fR : List ByteArray} {qO : List Nat} (f : Found a k h r es ps pre y lo hi fL fR qO) (hnd : ps.Nodup) (hr : Ruly a r ps) {n : L5.No} (hn : n = ⟨y.n.leaf, delK k y.n.recs, y.n.kids⟩) {L : List (Nat × L5.No)} {G : List Nat} {o : Option (Nat × L5.No)} (s : Shr a pre.reverse y.at_ n L G o) :
    ShrR a L G h r (fL ++ delK k y.n.recs ++ fR) (y.at_ :: ([] ++ qO)) o ∧ (∀ z ∈ L, z.2.shaped = true ∧ z.2.size ≤ 1024 ∧ z.1 ∈ y.at_ :: qO) ∧ (L.map Prod.fst).Nodup ∧ ∀ z ∈ L, ∃ c, a.at (z.1 : Int) = some c := by
  obtain ⟨r1, r2⟩ := shaped_recs f.holds.shaped
  have hkd := shaped_leaf f.holds.shaped f.leaf
  have hsub : (delK k y.n.recs).Sublist y.n.recs := by
    unfold delK
    conv => rhs; rw [← List.take_append_drop (y.n.recs.countP (ltB k)) y.n.recs]
    refine (List.Sublist.refl _).append ?_
    rw [← List.drop_drop]
    exact List.drop_sublist _ _
  have hnr : n.recs = delK k y.n.recs := by rw [hn]
  have hnl : n.leaf = true := by rw [hn]; exact f.leaf
  have hnk : n.kids = [] := by rw [hn]; exact hkd
  have hsn : n.shaped = true := shaped_mk (fun s hs => r1 s (hsub.subset (by rw [← hnr]; exact hs))) (by rw [hnr]; exact r2.sublist hsub) (Or.inl ⟨hnl, hnk⟩)
  have hzn : n.size ≤ 1024 := by
    have h1 := weigh_sublist hsub
    have h2 := f.holds.size
    unfold L5.No.size at h2 ⊢
    rw [hnr, hnk]
    rw [hkd] at h2
    simp at h2 ⊢
    omega
  have hN : NodeE a 0 n lo hi (delK k y.n.recs) [] := Or.inl ⟨⟨fun e he => f.ins e (hsub.subset (by rw [← hnr]; exact he)), Or.inl ⟨rfl, hnl, hnr.symm, rfl⟩⟩, hsn, hzn, fun p hp => by cases hp⟩
  have hlu : ∀ p ∈ qO, Lush a p := fun p hp => by
    rcases hr.lush with e | e
    · have := f.ps_.length_eq
      simp at this
      have : qO = [] := List.length_eq_zero_iff.1 (by omega)
      rw [this] at hp; cases hp
    · exact e p (f.ps_.mem_iff.2 (by simp [hp]))
  have hd : (y.at_ :: ([] ++ qO)).Nodup := by simpa using f.ps_.nodup_iff.1 hnd
  obtain ⟨g1, g4, g5⟩ := shr_law s f.ctx hN hlu (fun _ _ => rfl) f.ink ⟨_, f.holds.page⟩ hd
  refine ⟨g1, g4, g5, fun z hz => ?_⟩
  rcases List.mem_cons.1 (g4 z hz).2.2 with e | e
  · rw [e]; exact ⟨_, f.holds.page⟩
  · exact f.ctx.pages _ e

/-- What a deletion below a root comes to keeps what SetOk asks. -/
theorem Found.setOk {a : Abs} {k : ByteArray} {h r : Nat} {es : List ByteArray} {ps : List Nat} {pre : List Pl} {y : Pl} {lo hi : ByteArray} {fL fR : List ByteArray} {qO : List Nat} (f : Found a k h r es ps pre y lo hi fL fR qO) (hnd : ps.Nodup) (hr : Ruly a r ps) {n : L5.No} (hn : n = ⟨y.n.leaf, delK k y.n.recs, y.n.kids⟩) {L1 : List (Nat × L5.No)} {G1 : List Nat} {r1 : Nat} {n1 : L5.No} (s : Shr a pre.reverse y.at_ n L1 G1 (some (r1, n1))) : r1 = r ∧ SetOk a L1 r (h - 1) n1 := by
  obtain ⟨⟨h2, ps1, e1, e2, g1, g2⟩, g4, g5, hthere⟩ := shr_found f hnd hr hn s
  have hd : (y.at_ :: ([] ++ qO)).Nodup := by simpa using f.ps_.nodup_iff.1 hnd
  have hR : r ∉ ps1 := fun e => by
    have := (List.nodup_cons.1 (g2.nodup_iff.1 hd)).1
    exact this (by simp [e])
  refine ⟨e2, ?_⟩
  rw [e1, Nat.add_sub_cancel]
  rcases g1 with g1 | ⟨z1, z2, _⟩
  · exact set_of (fun c m hm => node_at hthere g5 (fun z hz => ⟨(g4 z hz).1, (g4 z hz).2.1⟩) hm) g1.1 g1.2.1 hR
  · cases h2 with
    | zero => show n1.kids.length ≠ 1; rw [z2]; decide
    | succ h2 => intro c hc; rw [z2] at hc; cases hc
end Go.Proofs.YtfdfamjajhmihaaGreat
