/-
  Tree: pages whose nodes have entries; how many pages such a tree has at most. Of no program's text.
-/
import Derived.Test.YtfdfamjajhmihaaGreatMAT
import Derived.Test.YtfdfamjajhmihaaGreatMAO
namespace Go.Proofs.YtfdfamjajhmihaaGreat
open Go.RowKit
open L4 (Abs)
open L5 (ltP ltB leB)

/-- A page holds one node. -/
theorem Holds.uniq {a : Abs} {at_ : Nat} {n m : L5.No} (h : Holds a at_ n) (k : Holds a at_ m) : n = m := by
  have e : L5.pageL n.toNd = L5.pageL m.toNd := Option.some.inj (h.page.symm.trans k.page)
  have e2 := L5.page_inj (L5.shaped_toNd h.shaped) (by rw [L5.toNd_size]; exact h.size) (L5.shaped_toNd k.shaped) (by rw [L5.toNd_size]; exact k.size) e
  have hk : ∀ {n : L5.No}, n.shaped = true → ∀ x ∈ n.kids, (0 : Int) ≤ x := fun {n} hs x hx => by
    cases hl : n.leaf
    · have := (shaped_kids hs hl).1 x hx; omega
    · rw [shaped_leaf hs hl] at hx; cases hx
  obtain ⟨l1, r1, k1⟩ := n
  obtain ⟨l2, r2, k2⟩ := m
  unfold L5.No.toNd at e2
  injection e2 with q1 q2 q3
  have er : r1 = r2 := by
    have inj : ∀ (x y : List ByteArray), x.map (·.data.toList) = y.map (·.data.toList) → x = y := by
      intro x
      induction x with
      | nil => intro y h; cases y with | nil => rfl | cons b y => simp at h
      | cons a x ih =>
        intro y h
        cases y with
        | nil => simp at h
        | cons b y =>
          simp only [List.map_cons, List.cons.injEq] at h
          have : a = b := ByteArray.ext (Array.toList_inj.1 h.1)
          rw [this, ih y h.2]
    exact inj _ _ q2
  have ek : k1 = k2 := by
    have inj : ∀ (x y : List Int), (∀ z ∈ x, 0 ≤ z) → (∀ z ∈ y, 0 ≤ z) → x.map Int.toNat = y.map Int.toNat → x = y := by
      intro x
      induction x with
      | nil => intro y _ _ h; cases y with | nil => rfl | cons b y => simp at h
      | cons a x ih =>
        intro y hx hy h
        cases y with
        | nil => simp at h
        | cons b y =>
          simp only [List.map_cons, List.cons.injEq] at h
          have h1 := hx a (by simp)
          have h2 := hy b (by simp)
          have : a = b := by omega
          rw [this, ih y (fun z hz => hx z (by simp [hz])) (fun z hz => hy z (by simp [hz])) h.2]
    exact inj _ _ (hk h.shaped) (hk k.shaped) q3
  have el : l1 = l2 := q1
  rw [el, er, ek]

/-- A page holds a node with entries. -/
def Good (a : Abs) (p : Nat) : Prop := ∃ m, Holds a p m ∧ m.recs ≠ []

theorem Good.same {a a' : Abs} {p : Nat} (h : Good a p) (e : a'.at (p : Int) = a.at (p : Int)) : Good a' p := by
  obtain ⟨m, h1, h2⟩ := h
  exact ⟨m, ⟨e.trans h1.page, h1.shaped, h1.size, h1.small⟩, h2⟩

theorem Good.use {a : Abs} {p : Nat} (h : Good a p) : ∃ c, a.at (p : Int) = some c := by
  obtain ⟨m, h1, _⟩ := h
  exact ⟨_, h1.page⟩

theorem fit_good {a : Abs} {at_ : Nat} {n : L5.No} {c : List UInt8} (hat : a.at (at_ : Int) = some c) (hs : n.shaped = true) (hz : n.size ≤ 1024) (hne : n.recs ≠ []) {p : Nat} (hp : Good a p ∨ p = at_ ∨ (a.at (p : Int) = none ∧ ∃ c, (layN a at_ n).at (p : Int) = some c)) : Good (layN a at_ n) p := by
  by_cases e : p = at_
  · subst e
    exact ⟨n, Holds.lay hat hs hz (small_of hs (by omega)), hne⟩
  · have hsm : (layN a at_ n).at (p : Int) = a.at (p : Int) := at_lay_ne e (at_pos hat) _
    rcases hp with hp | hp | ⟨hp, c', hc'⟩
    · exact hp.same hsm
    · exact absurd hp e
    · rw [hsm, hp] at hc'; cases hc'

theorem grows_good : ∀ (ups : List Pl) {a : Abs} {at_ : Nat} {n : L5.No} {c : List UInt8}, a.Ok → ups.length + 2 ≤ a.left → GrowOk ups a at_ n → n.recs ≠ [] → a.at (at_ : Int) = some c → (∀ u ∈ ups, ∃ c, a.at (u.at_ : Int) = some c) → ∀ p : Nat, (Good a p ∨ p = at_ ∨ (a.at (p : Int) = none ∧ ∃ c, (grows ups a at_ n).1.at (p : Int) = some c)) → Good (grows ups a at_ n).1 p := by
  intro ups
  induction ups with
  | nil =>
    intro a at_ n c ho hl hG hne hat _ p hp
    obtain ⟨hs, _, hd⟩ := hG
    by_cases hf : n.size ≤ 1024
    · have e : grows [] a at_ n = (layN a at_ n, none) := by rw [grows, if_pos hf]
      rw [e] at hp ⊢
      exact fit_good hat hs hf hne hp
    · obtain ⟨hc, hr1, hr2⟩ := hd.resolve_left hf
      obtain ⟨n1, n2⟩ := next_pos ho
      obtain ⟨⟨z, a1⟩, a2⟩ := at_alloc ho
      have ok1 := (ho.alloc (by omega)).1
      have hnx : a.next ≠ at_ := fun e => by rw [e, hat] at n2; cases n2
      have hat1 : a.alloc.at (at_ : Int) = some c := by rw [a2 at_ (fun e => hnx e.symm)]; exact hat
      have hnx1 : (layN a.alloc at_ (n.lo n.cut)).at (a.next : Int) = some z := by unfold layN; rw [at_lay_ne hnx (at_pos hat)]; exact a1
      have e : grows [] a at_ n = (layN (layN (layN a.alloc at_ (n.lo n.cut)) a.next (n.hi n.cut)).alloc (layN (layN a.alloc at_ (n.lo n.cut)) a.next (n.hi n.cut)).next ⟨false, [sepOf n], [(at_ : Int), (a.next : Int)]⟩, some (layN (layN a.alloc at_ (n.lo n.cut)) a.next (n.hi n.cut)).next) := by rw [grows, if_neg hf]
      rw [e] at hp ⊢
      have ok3 := layN_ok (n := n.hi n.cut) (layN_ok (n := n.lo n.cut) ok1 hat1 hc.lo.2.1) hnx1 hc.hi.2.1
      have oth : ∀ p : Nat, p ≠ at_ → p ≠ a.next → (layN (layN a.alloc at_ (n.lo n.cut)) a.next (n.hi n.cut)).at (p : Int) = a.at (p : Int) := fun p h1 h2 => by
        unfold layN
        rw [at_lay_ne h2 n1, at_lay_ne h1 (at_pos hat), a2 p h2]
      have gA : Good (layN (layN a.alloc at_ (n.lo n.cut)) a.next (n.hi n.cut)) at_ := ⟨n.lo n.cut, ⟨by
        show ((layN a.alloc at_ (n.lo n.cut)).lay a.next _).at (at_ : Int) = _
        rw [at_lay_ne (fun e => hnx e.symm) n1]
        exact at_lay_same hat1 _, hc.lo.1, hc.lo.2.1, hc.lo.2.2⟩, by
        have h1 := hc.pos; have h2 := hc.gap
        intro e
        have := congrArg List.length e
        simp [L5.No.lo] at this
        rcases this with h | h
        · omega
        · rw [h] at h2; simp at h2⟩
      have gB : Good (layN (layN a.alloc at_ (n.lo n.cut)) a.next (n.hi n.cut)) a.next := ⟨n.hi n.cut, ⟨at_lay_same hnx1 _, hc.hi.1, hc.hi.2.1, hc.hi.2.2⟩, by
        have h2 := hc.gap
        intro e
        have := congrArg List.length e
        simp [L5.No.hi] at this
        omega⟩
      generalize layN (layN a.alloc at_ (n.lo n.cut)) a.next (n.hi n.cut) = a1' at *
      obtain ⟨y1, y2⟩ := next_pos ok3
      obtain ⟨⟨z', b1⟩, b2⟩ := at_alloc ok3
      have oth2 : ∀ p : Nat, p ≠ a1'.next → (layN a1'.alloc a1'.next ⟨false, [sepOf n], [(at_ : Int), (a.next : Int)]⟩).at (p : Int) = a1'.at (p : Int) := fun p hp => by
        unfold layN
        rw [at_lay_ne hp y1, b2 p hp]
      by_cases er : p = a1'.next
      · subst er
        exact ⟨_, Holds.lay b1 hr1 hr2 (small_of hr1 (by omega)), by simp⟩
      · by_cases e1 : p = at_
        · subst e1; exact gA.same (oth2 p er)
        · by_cases e2 : p = a.next
          · subst e2; exact gB.same (oth2 _ er)
          · rcases hp with hp | hp | ⟨hp, c', hc'⟩
            · exact hp.same ((oth2 p er).trans (oth p e1 e2))
            · exact absurd hp e1
            · have hc'' : (layN a1'.alloc a1'.next ⟨false, [sepOf n], [(at_ : Int), (a.next : Int)]⟩).at (p : Int) = some c' := hc'
              rw [oth2 p er, oth p e1 e2, hp] at hc''; cases hc''
  | cons u us ih =>
    intro a at_ n c ho hl hG hne hat hus p hp
    obtain ⟨hs, _, hd⟩ := hG
    by_cases hf : n.size ≤ 1024
    · have e : grows (u :: us) a at_ n = (layN a at_ n, none) := by rw [grows, if_pos hf]
      rw [e] at hp ⊢
      exact fit_good hat hs hf hne hp
    · obtain ⟨hc, _, _, _, hG'⟩ := hd.resolve_left hf
      obtain ⟨n1, n2⟩ := next_pos ho
      obtain ⟨⟨z, a1⟩, a2⟩ := at_alloc ho
      have ok1 := (ho.alloc (by omega)).1
      have hnx : a.next ≠ at_ := fun e => by rw [e, hat] at n2; cases n2
      have hat1 : a.alloc.at (at_ : Int) = some c := by rw [a2 at_ (fun e => hnx e.symm)]; exact hat
      have hnx1 : (layN a.alloc at_ (n.lo n.cut)).at (a.next : Int) = some z := by unfold layN; rw [at_lay_ne hnx (at_pos hat)]; exact a1
      have e : grows (u :: us) a at_ n = grows us (layN (layN a.alloc at_ (n.lo n.cut)) a.next (n.hi n.cut)) u.at_ (addK u (sepOf n) a.next) := by rw [grows, if_neg hf]
      rw [e] at hp ⊢
      have ok3 := layN_ok (n := n.hi n.cut) (layN_ok (n := n.lo n.cut) ok1 hat1 hc.lo.2.1) hnx1 hc.hi.2.1
      have hlf : (layN (layN a.alloc at_ (n.lo n.cut)) a.next (n.hi n.cut)).left = a.left - 1 := by rw [(layN_used _ _ _).2.2, (layN_used _ _ _).2.2, left_alloc ho]
      have oth : ∀ p : Nat, p ≠ at_ → p ≠ a.next → (layN (layN a.alloc at_ (n.lo n.cut)) a.next (n.hi n.cut)).at (p : Int) = a.at (p : Int) := fun p h1 h2 => by
        unfold layN
        rw [at_lay_ne h2 n1, at_lay_ne h1 (at_pos hat), a2 p h2]
      have gA : Good (layN (layN a.alloc at_ (n.lo n.cut)) a.next (n.hi n.cut)) at_ := ⟨n.lo n.cut, ⟨by
        show ((layN a.alloc at_ (n.lo n.cut)).lay a.next _).at (at_ : Int) = _
        rw [at_lay_ne (fun e => hnx e.symm) n1]
        exact at_lay_same hat1 _, hc.lo.1, hc.lo.2.1, hc.lo.2.2⟩, by
        have h1 := hc.pos; have h2 := hc.gap
        intro e
        have := congrArg List.length e
        simp [L5.No.lo] at this
        rcases this with h | h
        · omega
        · rw [h] at h2; simp at h2⟩
      have gB : Good (layN (layN a.alloc at_ (n.lo n.cut)) a.next (n.hi n.cut)) a.next := ⟨n.hi n.cut, ⟨at_lay_same hnx1 _, hc.hi.1, hc.hi.2.1, hc.hi.2.2⟩, by
        have h2 := hc.gap
        intro e
        have := congrArg List.length e
        simp [L5.No.hi] at this
        omega⟩
      generalize layN (layN a.alloc at_ (n.lo n.cut)) a.next (n.hi n.cut) = a1' at *
      have use1 : ∀ q : Nat, (∃ c, a.at (q : Int) = some c) → ∃ c, a1'.at (q : Int) = some c := fun q ⟨c', hq⟩ => by
        by_cases e1 : q = at_
        · subst e1; exact gA.use
        · have e2 : q ≠ a.next := fun e => by rw [e, n2] at hq; cases hq
          exact ⟨c', by rw [oth q e1 e2]; exact hq⟩
      obtain ⟨cu, hcu⟩ := use1 u.at_ (hus u (by simp))
      refine ih ok3 (by simp at hl; omega) hG' (by simp [addK]) hcu (fun v hv => use1 v.at_ (hus v (by simp [hv]))) p ?_
      by_cases e1 : p = at_
      · subst e1; exact Or.inl gA
      · by_cases e2 : p = a.next
        · subst e2; exact Or.inl gB
        · rcases hp with hp | hp | ⟨hp, hc'⟩
          · exact Or.inl (hp.same (oth p e1 e2))
          · exact absurd hp e1
          · exact Or.inr (Or.inr ⟨by rw [oth p e1 e2]; exact hp, hc'⟩)

theorem Subs.count {P : Nat → ByteArray → ByteArray → List ByteArray → List Nat → Prop} {hi lo : ByteArray} {rs es : List ByteArray} {cs : List Int} {ps : List Nat} (k : Subs P hi lo rs cs es ps) : (∀ c lo hi es q, (∀ p ∈ q, p ∈ ps) → P c lo hi es q → q.length + 1 ≤ 2 * es.length) → ps.length + cs.length ≤ 2 * es.length := by
  induction k with
  | one h => intro hP; have := hP _ _ _ _ _ (fun p hp => hp) h; simpa using this
  | more h _ ih =>
    intro hP
    have h1 := hP _ _ _ _ _ (fun p hp => List.mem_append_left _ hp) h
    have h2 := ih fun c lo hi es q hq => hP c lo hi es q fun p hp => List.mem_append_right _ (hq p hp)
    simp
    omega

/-- A tree whose nodes all have entries has fewer than two pages an entry. -/
theorem Sub.count {a : Abs} : ∀ {h at_ : Nat} {lo hi : ByteArray} {es : List ByteArray} {ps : List Nat}, Sub a h at_ lo hi es ps → (∀ p ∈ ps, Good a p) → ps.length + 1 ≤ 2 * es.length := by
  intro h
  induction h with
  | zero => intro _ _ _ _ _ k; exact k.elim
  | succ h ih =>
    intro at_ lo hi es ps k hg
    obtain ⟨n, ps', hn, rfl, hb, hc⟩ := k
    obtain ⟨m, hm, hne⟩ := hg at_ (by simp)
    have e := hm.uniq hn
    subst e
    have hpos : 1 ≤ m.recs.length := by
      cases hr : m.recs with
      | nil => exact absurd hr hne
      | cons x l => simp
    rcases hc with ⟨_, hl, rfl, rfl⟩ | ⟨_, hl, hs⟩
    · simp; omega
    · have h1 := hs.count fun c lo hi es q hq k => ih k fun p hp => hg p (by simp [hq p hp])
      have h2 := (shaped_kids hn.shaped hl).2
      simp
      omega

/-- A tree that was only put into. -/
def Fat (a : Abs) (es : List ByteArray) (ps : List Nat) : Prop := (es = [] ∧ ps.length = 1) ∨ ∀ p ∈ ps, Good a p

theorem Fat.frame {a a' : Abs} {es : List ByteArray} {ps : List Nat} (h : Fat a es ps) (hp : ∀ p ∈ ps, a'.at (p : Int) = a.at (p : Int)) : Fat a' es ps := h.imp id fun hg p hpp => (hg p hpp).same (hp p hpp)

theorem Fat.few {a : Abs} {h r : Nat} {es : List ByteArray} {ps : List Nat} (k : Fat a es ps) (hs : Sub a h r e0 e0 es ps) : ps.length ≤ 2 * es.length + 1 := by
  rcases k with ⟨_, e⟩ | k
  · omega
  · have := hs.count k; omega
end Go.Proofs.YtfdfamjajhmihaaGreat
/-
  Tree: a tree as its entries: what an insertion finds and makes. Of no program's text.
-/
namespace Go.Proofs.YtfdfamjajhmihaaGreat
open Go.RowKit
open L4 (Abs)
open L5 (ltP ltB leB)

/-- The pages from a root on are a tree of these entries. -/
structure TreeP (a : Abs) (r h l : Nat) (es : List ByteArray) (ps : List Nat) : Prop where
  sub : Sub a h r e0 e0 es ps
  len : l = es.length
  nodup : ps.Nodup

/-- One more entry. -/
def insK (k : ByteArray) (es : List ByteArray) : List ByteArray := es.take (es.countP (ltB k)) ++ [k] ++ es.drop (es.countP (ltB k))

theorem insK_len (k : ByteArray) (es : List ByteArray) : (insK k es).length = es.length + 1 := by
  have := List.countP_le_length (p := ltB k) (l := es)
  simp [insK]
  omega

theorem insK_mem (k : ByteArray) (es : List ByteArray) (x : ByteArray) : x ∈ insK k es ↔ x = k ∨ x ∈ es := by
  unfold insK
  have : x ∈ es ↔ x ∈ es.take (es.countP (ltB k)) ∨ x ∈ es.drop (es.countP (ltB k)) := by
    rw [← List.mem_append, List.take_append_drop]
  rw [this]
  simp only [List.mem_append, List.mem_singleton]
  constructor
  · rintro ((h | h) | h)
    · exact Or.inr (Or.inl h)
    · exact Or.inl h
    · exact Or.inr (Or.inr h)
  · rintro (h | h | h)
    · exact Or.inl (Or.inr h)
    · exact Or.inl (Or.inl h)
    · exact Or.inr h

/-- Among others that stand on both sides. -/
theorem insK_mid {k : ByteArray} {a b c : List ByteArray} (ha : ∀ e ∈ a, ltP e k) (hc : ∀ e ∈ c, ltP k e) : insK k (a ++ b ++ c) = a ++ insK k b ++ c := by
  have h1 : a.countP (ltB k) = a.length := List.countP_eq_length.2 ha
  have h2 : c.countP (ltB k) = 0 := by
    rw [List.countP_eq_zero]
    intro x hx h
    exact lt_irr x (lt_tr (ltB_iff.1 h) (hc x hx))
  have h3 := List.countP_le_length (p := ltB k) (l := b)
  unfold insK
  rw [List.countP_append, List.countP_append, h1, h2, Nat.add_zero]
  rw [List.append_assoc a b c, List.take_append, List.drop_append]
  rw [List.take_of_length_le (by omega), List.drop_of_length_le (by omega), Nat.add_sub_cancel_left, List.take_append, List.drop_append]
  rw [show b.countP (ltB k) - b.length = 0 by omega]
  simp

/-- Whether a rising list has a text shows where it would stand. -/
theorem isAt_mem {l : List ByteArray} (h : l.Pairwise ltP) (k : ByteArray) : L5.isAt l k (l.countP (ltB k)) = true ↔ k ∈ l := by
  constructor
  · intro hi
    unfold L5.isAt at hi
    cases hx : l[l.countP (ltB k)]? with
    | none => rw [hx] at hi; cases hi
    | some r =>
      rw [hx] at hi
      have : r = k := ba_ext (by simpa using hi)
      rw [← this]
      exact List.mem_of_getElem? hx
  · intro hm
    obtain ⟨i, hi, e⟩ := List.getElem_of_mem hm
    have hc : l.countP (ltB k) = i := L5.count_cut l (ltB k) i (by omega) (fun j hj hji => by
      rw [← e]; exact List.pairwise_iff_getElem.1 h j i hj hi hji) (fun j hj hij => by
      rcases Nat.lt_or_ge i j with hlt | hge
      · have := List.pairwise_iff_getElem.1 h i j hi hj hlt
        rw [e] at this
        exact ltB_no.2 (le_of this)
      · have hji : j = i := by omega
        subst hji
        rw [e]
        exact ltB_no.2 (le_rf _))
    unfold L5.isAt
    rw [hc, List.getElem?_eq_getElem hi, e]
    simp

/-- What the way to a text finds. -/
structure Found (a : Abs) (k : ByteArray) (h r : Nat) (es : List ByteArray) (ps : List Nat) (pre : List Pl) (y : Pl) (lo hi : ByteArray) (fL fR : List ByteArray) (qO : List Nat) : Prop where
  path : Path a k h r (pre ++ [y])
  ctx : Ctx a h r pre.reverse 1 y.at_ lo hi fL fR qO
  holds : Holds a y.at_ y.n
  leaf : y.n.leaf = true
  ins : ∀ e ∈ y.n.recs, inB lo hi e
  ink : inB lo hi k
  es_ : es = fL ++ y.n.recs ++ fR
  ps_ : ps.Perm (y.at_ :: qO)
  lows : ∀ e ∈ fL, ltP e k
  highs : ∀ e ∈ fR, ltP k e

theorem Sub.found {a : Abs} {h r : Nat} {es : List ByteArray} {ps : List Nat} (hs : Sub a h r e0 e0 es ps) (k : ByteArray) : ∃ pre y lo hi fL fR qO, Found a k h r es ps pre y lo hi fL fR qO := by
  obtain ⟨mid, y, lo, hi, fL, fR, qO, p1, p2, p3, p4, p5, p6, p7, p8, p9, p10⟩ := hs.find (k := k) (H := h) (R := r) .root ⟨le_e0 k, Or.inl e0_size⟩ (by simp) (by simp)
  exact ⟨mid, y, lo, hi, fL, fR, qO, p1, by simpa using p2, p3, p4, p5, p6, by simpa using p7, by simpa using p8, p9, p10⟩

theorem Found.mem {a : Abs} {k : ByteArray} {h r : Nat} {es : List ByteArray} {ps : List Nat} {pre : List Pl} {y : Pl} {lo hi : ByteArray} {fL fR : List ByteArray} {qO : List Nat} (f : Found a k h r es ps pre y lo hi fL fR qO) : k ∈ es ↔ L5.isAt y.n.recs k (y.n.recs.countP (ltB k)) = true := by
  rw [isAt_mem (shaped_recs f.holds.shaped).2, f.es_]
  simp only [List.mem_append]
  constructor
  · rintro ((h | h) | h)
    · exact absurd (f.lows k h) (lt_irr k)
    · exact h
    · exact absurd (f.highs k h) (lt_irr k)
  · exact fun h => Or.inl (Or.inr h)

/-- The pages of the way are in use. -/
theorem Ctx.steps {a : Abs} {H R : Nat} {us : List Pl} {h at_ : Nat} {lo hi : ByteArray} {esL esR : List ByteArray} {psO : List Nat} (k : Ctx a H R us h at_ lo hi esL esR psO) : ∀ u ∈ us, ∃ c, a.at (u.at_ : Int) = some c := by
  induction k with
  | root => intro u hu; cases hu
  | up hn _ _ _ _ _ _ _ _ _ _ ih =>
    intro u hu
    rcases List.mem_cons.1 hu with rfl | hu
    · exact ⟨_, hn.page⟩
    · exact ih u hu

/-- The leaf with one more entry. -/
theorem Found.law {a : Abs} {k : ByteArray} {h r : Nat} {es : List ByteArray} {ps : List Nat} {pre : List Pl} {y : Pl} {lo hi : ByteArray} {fL fR : List ByteArray} {qO : List Nat} (f : Found a k h r es ps pre y lo hi fL fR qO) (ho : a.Ok) (hnd : ps.Nodup) (hl : h + 1 ≤ a.left) (h1 : 1 ≤ k.size) (h2 : k.size ≤ 400) (hno : k ∉ es) {n : L5.No} (hn : n = ⟨y.n.leaf, y.n.recs.take (y.n.recs.countP (ltB k)) ++ [k] ++ y.n.recs.drop (y.n.recs.countP (ltB k)), y.n.kids⟩) :
    GrowOk pre.reverse a y.at_ n ∧ ∃ ps', Sub (grows pre.reverse a y.at_ n).1 (h + (if (grows pre.reverse a y.at_ n).2.isSome then 1 else 0)) ((grows pre.reverse a y.at_ n).2.getD r) e0 e0 (insK k es) ps' ∧ Grew a (grows pre.reverse a y.at_ n).1 ps ps' ∧ (Fat a es ps → Fat (grows pre.reverse a y.at_ n).1 (insK k es) ps') := by
  obtain ⟨r1, r2⟩ := shaped_recs f.holds.shaped
  have hk := shaped_leaf f.holds.shaped f.leaf
  have hc := List.countP_le_length (p := ltB k) (l := y.n.recs)
  have hno' : k ∉ y.n.recs := fun hm => hno (f.mem.2 ((isAt_mem r2 k).2 hm))
  have hrec : n.recs = insK k y.n.recs := by rw [hn]; rfl
  have hlf : n.leaf = true := by rw [hn]; exact f.leaf
  have hkd : n.kids = [] := by rw [hn]; exact hk
  have hris : n.recs.Pairwise ltP := by
    have hr : L5.risesB y.n.recs = true := (L5.rises_iff _).2 ⟨r1, r2⟩
    have e : L5.insL y.n.recs k = n.recs := by rw [hrec]; unfold L5.insL insK; rw [L5.count_lt hr]
    rw [← e]
    refine ((L5.rises_iff _).1 (L5.rises_ins hr k h1 h2 ?_)).2
    cases hb : L5.isAt y.n.recs k (L5.firstN y.n.recs k) with
    | false => rfl
    | true =>
      rw [← L5.count_lt hr] at hb
      exact absurd ((isAt_mem r2 k).1 hb) hno'
  have hmem : ∀ e ∈ n.recs, e = k ∨ e ∈ y.n.recs := fun e he => by rw [hrec] at he; exact (insK_mem k _ e).1 he
  have hsh : n.shaped = true := shaped_mk (fun e he => by
    rcases hmem e he with rfl | he
    · exact ⟨h1, h2⟩
    · exact r1 e he) hris (Or.inl ⟨hlf, hkd⟩)
  have hsz : n.size ≤ 1024 + if n.leaf then 404 else 408 := by
    have hz := f.holds.size
    rw [hlf]
    unfold L5.No.size at hz ⊢
    rw [hkd, hrec]
    rw [hk] at hz
    have hw : L5.weigh (insK k y.n.recs) = L5.weigh y.n.recs + (4 + k.size) := by
      unfold insK
      rw [L5.weigh_append, L5.weigh_append]
      have e1 : L5.weigh y.n.recs = L5.weigh (y.n.recs.take (y.n.recs.countP (ltB k))) + L5.weigh (y.n.recs.drop (y.n.recs.countP (ltB k))) := by rw [← L5.weigh_append, List.take_append_drop]
      have e2 : L5.weigh [k] = 4 + k.size := by simp [L5.weigh]
      omega
    rw [hw]
    simp at hz ⊢
    omega
  have hbody : Body (Sub a 0) 0 n lo hi n.recs [] := ⟨fun e he => by
    rcases hmem e he with rfl | he
    · exact f.ink
    · exact f.ins e he, Or.inl ⟨rfl, hlf, rfl, rfl⟩⟩
  have hlen : pre.length + 1 = h := by have := f.path.pos.1; simpa using this
  obtain ⟨ps', g1, g2, g3⟩ := grows_law pre.reverse (n := n) ho (by simp; omega) hsh hsz hbody f.ctx f.holds.page (by simpa using f.ps_.nodup_iff.1 hnd)
  have hne : n.recs ≠ [] := fun e => by
    have := congrArg List.length (hrec.symm.trans e)
    rw [insK_len] at this
    simp at this
  have hgd := grows_good pre.reverse ho (by simp; omega) g3 hne f.holds.page (fun u hu => f.ctx.steps u hu)
  refine ⟨g3, ps', ?_, ⟨g2.ok, g2.q, g2.nodup, fun p hp => g2.sup p (by simpa using f.ps_.mem_iff.1 hp), fun p hp => ?_, fun p hp hc => g2.frame p (fun hm => hp (f.ps_.mem_iff.2 (by simpa using hm))) hc, ?_⟩, ?_⟩
  · rw [f.es_, insK_mid f.lows f.highs, ← hrec]
    exact g1
  · exact (g2.fresh p hp).imp (fun hm => f.ps_.mem_iff.2 (by simpa using hm)) id
  · have := g2.used
    rw [f.ps_.length_eq]
    simpa using this
  · intro hf
    right
    intro p hp
    apply hgd
    rcases g2.fresh p hp with hm | hm
    · have hm' : p ∈ ps := f.ps_.mem_iff.2 (by simpa using hm)
      rcases hf with ⟨_, h1⟩ | hf
      · have hy : y.at_ ∈ ps := f.ps_.mem_iff.2 (by simp)
        cases hps : ps with
        | nil => rw [hps] at hm'; cases hm'
        | cons q l =>
          rw [hps] at h1 hm' hy
          have hl0 : l = [] := List.length_eq_zero_iff.1 (by simpa using h1)
          subst hl0
          simp at hm' hy
          exact Or.inr (Or.inl (by rw [hm', hy]))
      · exact Or.inl (hf p hm')
    · exact Or.inr (Or.inr ⟨hm, g1.pages p hp⟩)

/-- Numbers below a bound, none twice. -/
theorem nodup_le : ∀ (n : Nat) (l : List Nat), l.Nodup → (∀ x ∈ l, x < n) → l.length ≤ n := by
  intro n
  induction n with
  | zero =>
    intro l _ h
    cases l with
    | nil => simp
    | cons x l => exact absurd (h x (by simp)) (by omega)
  | succ n ih =>
    intro l hd h
    by_cases hm : n ∈ l
    · have h1 := ih (l.erase n) (hd.erase n) (fun x hx => by
        have h2 := h x (List.mem_of_mem_erase hx)
        have h3 : x ≠ n := fun e => by
          subst e
          exact (List.Nodup.not_mem_erase hd) hx
        omega)
      rw [List.length_erase_of_mem hm] at h1
      omega
    · have h1 := ih l hd (fun x hx => by
        have h2 := h x hx
        have h3 : x ≠ n := fun e => hm (e ▸ hx)
        omega)
      omega

theorem pages_le {a : Abs} (ho : a.Ok) {ps : List Nat} (hd : ps.Nodup) (hp : ∀ p ∈ ps, ∃ c, a.at (p : Int) = some c) : ps.length ≤ 4096 := by
  have : ∀ p ∈ ps, p < 4097 ∧ p ≠ 0 := fun p hp' => by
    obtain ⟨c, hc⟩ := hp p hp'
    obtain ⟨h1, h2, _⟩ := L4.Abs.at_some hc
    have := ho.small
    have h2' : p - 1 < a.pg.length := by simpa using h2
    omega
  have h1 := nodup_le 4097 (0 :: ps) (List.nodup_cons.2 ⟨fun h => (this 0 h).2 rfl, hd⟩) (fun x hx => by
    rcases List.mem_cons.1 hx with rfl | hx
    · omega
    · exact (this x hx).1)
  simp at h1
  omega

theorem Sub.tall {a : Abs} : ∀ {h at_ : Nat} {lo hi : ByteArray} {es : List ByteArray} {ps : List Nat}, Sub a h at_ lo hi es ps → h ≤ ps.length ∧ 1 ≤ h ∧ at_ ∈ ps := by
  intro h
  induction h with
  | zero => intro _ _ _ _ _ k; exact k.elim
  | succ h ih =>
    intro at_ lo hi es ps k
    obtain ⟨n, ps', hn, rfl, hb, hc⟩ := k
    refine ⟨?_, by omega, by simp⟩
    rcases hc with ⟨rfl, _, _, _⟩ | ⟨_, _, hs⟩
    · simp
    · generalize n.recs = rs at hs
      generalize n.kids = cs at hs
      cases hs with
      | one hP => have := (ih hP).1; simp; omega
      | more hP _ => have := (ih hP).1; simp; omega

theorem TreeP.tall {a : Abs} {r h l : Nat} {es : List ByteArray} {ps : List Nat} (k : TreeP a r h l es ps) (ho : a.Ok) : h ≤ 4096 ∧ 1 ≤ h ∧ r ≠ 0 := by
  obtain ⟨h1, h2, h3⟩ := k.sub.tall
  have := pages_le ho k.nodup k.sub.pages
  obtain ⟨c, hc⟩ := k.sub.pages r h3
  have := at_pos hc
  omega

/-- Other pages turn. -/
theorem TreeP.frame {a a' : Abs} {r h l : Nat} {es : List ByteArray} {ps : List Nat} (k : TreeP a r h l es ps) (hp : ∀ p ∈ ps, a'.at (p : Int) = a.at (p : Int)) : TreeP a' r h l es ps := ⟨k.sub.frame hp, k.len, k.nodup⟩
end Go.Proofs.YtfdfamjajhmihaaGreat
