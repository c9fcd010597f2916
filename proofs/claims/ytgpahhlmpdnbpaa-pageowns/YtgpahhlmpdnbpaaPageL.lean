/-
  Nodes and their pages, as lists of bytes: a page of 1024 bytes, what is read out of it, and that a node that fits is read back. Of no program.
-/
import Derived.Test.YtgpahhlmpdnbpaaOnly
namespace Go.Proofs.Ytgpahhlmpdnbpaa

/-- A node: is it a leaf, its entries, its Kids. -/
structure Nd where
  leaf : Bool
  recs : List (List UInt8)
  kids : List Nat

def n2 (n : Nat) : List UInt8 := [UInt8.ofNat (n / 256), UInt8.ofNat n]
def n4 (n : Nat) : List UInt8 := [UInt8.ofNat (n / 16777216), UInt8.ofNat (n / 65536), UInt8.ofNat (n / 256), UInt8.ofNat n]

/-- The slots of entries, the first of which ends at e. -/
def slots : Nat → List (List UInt8) → List UInt8
  | _, [] => []
  | e, r :: l => n2 (e - r.length) ++ n2 r.length ++ slots (e - r.length) l

def lens (l : List (List UInt8)) : Nat := (l.map List.length).sum
def tailL (l : List (List UInt8)) : List UInt8 := l.reverse.flatten
def headL (n : Nd) : List UInt8 := [if n.leaf then 1 else 2] ++ n2 n.recs.length ++ n.kids.flatMap n4 ++ slots 1024 n.recs
def pageL (n : Nd) : List UInt8 := headL n ++ List.replicate (1024 - (headL n).length - (tailL n.recs).length) 0 ++ tailL n.recs
def Nd.size (n : Nd) : Nat := 3 + 4 * n.kids.length + (4 * n.recs.length + lens n.recs)

theorem slots_length (e : Nat) (l : List (List UInt8)) : (slots e l).length = 4 * l.length := by
  induction l generalizing e with
  | nil => rfl
  | cons r l ih => simp [slots, n2, ih]; omega

theorem n4s_length (l : List Nat) : (l.flatMap n4).length = 4 * l.length := by
  induction l with
  | nil => rfl
  | cons r l ih => simp [n4] at ih ⊢; omega

theorem headL_length (n : Nd) : (headL n).length = 3 + 4 * n.kids.length + 4 * n.recs.length := by
  unfold headL
  simp only [List.length_append, List.length_singleton, slots_length, n4s_length]
  simp [n2]

theorem tailL_length (l : List (List UInt8)) : (tailL l).length = lens l := by
  unfold tailL lens
  rw [List.length_flatten, List.map_reverse, List.sum_reverse]

theorem pageL_length {n : Nd} (h : n.size ≤ 1024) : (pageL n).length = 1024 := by
  unfold pageL
  have h1 := headL_length n
  have h2 := tailL_length n.recs
  unfold Nd.size at h
  simp only [List.length_append, List.length_replicate]
  omega

/-! What is read at a place. -/
def byteAt (b : List UInt8) (i : Nat) : Nat := (b.getD i 0).toNat
def at2 (b : List UInt8) (i : Nat) : Nat := byteAt b i * 256 + byteAt b (i + 1)
def at4 (b : List UInt8) (i : Nat) : Nat := ((byteAt b i * 256 + byteAt b (i + 1)) * 256 + byteAt b (i + 2)) * 256 + byteAt b (i + 3)
def cut (b : List UInt8) (i m : Nat) : List UInt8 := (b.drop i).take m

theorem byteAt_mid (a c : List UInt8) (x : UInt8) (r : List UInt8) (i : Nat) (h : i = a.length) (hc : c = x :: r) : byteAt (a ++ c) i = x.toNat := by
  subst h hc
  unfold byteAt
  simp

theorem ofNat_toNat (n : Nat) : (UInt8.ofNat n).toNat = n % 256 := UInt8.toNat_ofNat'

theorem at2_mid (a r : List UInt8) (v i : Nat) (hv : v < 65536) (h : i = a.length) : at2 (a ++ (n2 v ++ r)) i = v := by
  have e1 := byteAt_mid a (n2 v ++ r) _ _ i h rfl
  have e2 := byteAt_mid (a ++ [UInt8.ofNat (v / 256)]) ([UInt8.ofNat v] ++ r) _ _ (i + 1) (by simp [h]) rfl
  have e3 : a ++ (n2 v ++ r) = (a ++ [UInt8.ofNat (v / 256)]) ++ ([UInt8.ofNat v] ++ r) := by simp [n2]
  unfold at2
  rw [e1, e3, e2, ofNat_toNat, ofNat_toNat]
  omega

theorem at4_mid (a r : List UInt8) (v i : Nat) (hv : v < 4294967296) (h : i = a.length) : at4 (a ++ (n4 v ++ r)) i = v := by
  have e1 := byteAt_mid a (n4 v ++ r) _ _ i h rfl
  have e2 := byteAt_mid (a ++ [UInt8.ofNat (v / 16777216)]) ([UInt8.ofNat (v / 65536), UInt8.ofNat (v / 256), UInt8.ofNat v] ++ r) _ _ (i + 1) (by simp [h]) rfl
  have e3 := byteAt_mid (a ++ [UInt8.ofNat (v / 16777216), UInt8.ofNat (v / 65536)]) ([UInt8.ofNat (v / 256), UInt8.ofNat v] ++ r) _ _ (i + 2) (by simp [h]) rfl
  have e4 := byteAt_mid (a ++ [UInt8.ofNat (v / 16777216), UInt8.ofNat (v / 65536), UInt8.ofNat (v / 256)]) ([UInt8.ofNat v] ++ r) _ _ (i + 3) (by simp [h]) rfl
  have f2 : a ++ (n4 v ++ r) = (a ++ [UInt8.ofNat (v / 16777216)]) ++ ([UInt8.ofNat (v / 65536), UInt8.ofNat (v / 256), UInt8.ofNat v] ++ r) := by simp [n4]
  have f3 : a ++ (n4 v ++ r) = (a ++ [UInt8.ofNat (v / 16777216), UInt8.ofNat (v / 65536)]) ++ ([UInt8.ofNat (v / 256), UInt8.ofNat v] ++ r) := by simp [n4]
  have f4 : a ++ (n4 v ++ r) = (a ++ [UInt8.ofNat (v / 16777216), UInt8.ofNat (v / 65536), UInt8.ofNat (v / 256)]) ++ ([UInt8.ofNat v] ++ r) := by simp [n4]
  have g1 : byteAt (a ++ (n4 v ++ r)) i = v / 16777216 % 256 := by rw [e1, ofNat_toNat]
  have g2 : byteAt (a ++ (n4 v ++ r)) (i + 1) = v / 65536 % 256 := by rw [f2, e2, ofNat_toNat]
  have g3 : byteAt (a ++ (n4 v ++ r)) (i + 2) = v / 256 % 256 := by rw [f3, e3, ofNat_toNat]
  have g4 : byteAt (a ++ (n4 v ++ r)) (i + 3) = v % 256 := by rw [f4, e4, ofNat_toNat]
  unfold at4
  rw [g1, g2, g3, g4]
  omega

theorem kids_read (l : List Nat) : ∀ (a r : List UInt8) (j v : Nat), (∀ x ∈ l, x < 4294967296) → l[j]? = some v → at4 (a ++ (l.flatMap n4 ++ r)) (a.length + 4 * j) = v := by
  induction l with
  | nil => intro a r j v _ h; simp at h
  | cons x l ih =>
    intro a r j v hl h
    rw [List.flatMap_cons, List.append_assoc]
    cases j with
    | zero =>
      simp at h
      subst h
      exact at4_mid a _ x _ (hl x (by simp)) rfl
    | succ j =>
      have := ih (a ++ n4 x) r j v (fun y hy => hl y (by simp [hy])) (by simpa using h)
      rw [show a ++ (n4 x ++ (l.flatMap n4 ++ r)) = (a ++ n4 x) ++ (l.flatMap n4 ++ r) by simp]
      rw [show a.length + 4 * (j + 1) = (a ++ n4 x).length + 4 * j by simp [n4]; omega]
      exact this

/-- Where an entry begins. -/
def endAt (e : Nat) (l : List (List UInt8)) (j : Nat) : Nat := e - lens (l.take (j + 1))

theorem lens_cons (r : List UInt8) (l : List (List UInt8)) : lens (r :: l) = r.length + lens l := by simp [lens]
theorem lens_append (a b : List (List UInt8)) : lens (a ++ b) = lens a + lens b := by simp [lens]

theorem slots_read (l : List (List UInt8)) : ∀ (e : Nat) (a r : List UInt8) (j : Nat) (v : List UInt8), e < 65536 → (∀ x ∈ l, x.length < 65536) → l[j]? = some v → at2 (a ++ (slots e l ++ r)) (a.length + 4 * j) = endAt e l j ∧ at2 (a ++ (slots e l ++ r)) (a.length + 4 * j + 2) = v.length := by
  induction l with
  | nil => intro e a r j v _ _ h; simp at h
  | cons x l ih =>
    intro e a r j v he hl h
    have hx : x.length < 65536 := hl x (by simp)
    have e0 : a ++ (slots e (x :: l) ++ r) = a ++ (n2 (e - x.length) ++ (n2 x.length ++ (slots (e - x.length) l ++ r))) := by simp [slots]
    have e1 : a ++ (slots e (x :: l) ++ r) = (a ++ n2 (e - x.length)) ++ (n2 x.length ++ (slots (e - x.length) l ++ r)) := by simp [slots]
    have e2 : a ++ (slots e (x :: l) ++ r) = (a ++ (n2 (e - x.length) ++ n2 x.length)) ++ (slots (e - x.length) l ++ r) := by simp [slots]
    cases j with
    | zero =>
      simp at h
      subst h
      refine ⟨?_, ?_⟩
      · rw [e0, at2_mid a _ (e - x.length) (a.length + 4 * 0) (by omega) rfl]
        simp [endAt, lens]
      · rw [e1, at2_mid (a ++ n2 (e - x.length)) _ x.length (a.length + 4 * 0 + 2) hx (by simp [n2])]
    | succ j =>
      obtain ⟨i1, i2⟩ := ih (e - x.length) (a ++ (n2 (e - x.length) ++ n2 x.length)) r j v (by omega) (fun y hy => hl y (by simp [hy])) (by simpa using h)
      have hlen : (a ++ (n2 (e - x.length) ++ n2 x.length)).length + 4 * j = a.length + 4 * (j + 1) := by simp [n2]; omega
      rw [hlen] at i1 i2
      rw [e2, i1, i2]
      refine ⟨?_, rfl⟩
      unfold endAt
      rw [List.take_succ_cons, lens_cons]
      omega

theorem tail_split (l : List (List UInt8)) (j : Nat) (v : List UInt8) (h : l[j]? = some v) : tailL l = tailL (l.drop (j + 1)) ++ (v ++ tailL (l.take j)) := by
  have hlt := (List.getElem?_eq_some_iff.1 h).1
  have e : l = l.take j ++ v :: l.drop (j + 1) := by
    have hv : l[j] = v := (List.getElem?_eq_some_iff.1 h).2
    rw [← hv, ← List.drop_eq_getElem_cons hlt, List.take_append_drop]
  conv => lhs; rw [e]
  unfold tailL
  simp

theorem cut_mid (a v r : List UInt8) (i m : Nat) (h : i = a.length) (hm : m = v.length) : cut (a ++ (v ++ r)) i m = v := by
  subst h hm
  unfold cut
  simp

/-- The node that is read, whatever the bytes are. -/
def readNd (b : List UInt8) : Nd :=
  let leaf := byteAt b 0 == 1
  let c := at2 b 1
  let o := if leaf then 3 else 3 + 4 * (c + 1)
  ⟨leaf, (List.range c).map fun i => cut b (at2 b (o + 4 * i)) (at2 b (o + 4 * i + 2)), if leaf then [] else (List.range (c + 1)).map fun i => at4 b (3 + 4 * i)⟩

/-- Right but for its size. -/
structure Nd.Shaped (n : Nd) : Prop where
  kids : n.kids.length = if n.leaf then 0 else n.recs.length + 1
  low : ∀ k ∈ n.kids, 1 ≤ k ∧ k ≤ 4096
  recs : ∀ r ∈ n.recs, 1 ≤ r.length ∧ r.length ≤ 400

theorem recs_le {n : Nd} (h : n.size ≤ 1024) : n.recs.length ≤ 1024 := by
  unfold Nd.size at h
  omega

/-- A node that fits is read out of its page. -/
theorem read_page {n : Nd} (hs : n.Shaped) (h : n.size ≤ 1024) : readNd (pageL n) = n ∧ byteAt (pageL n) 0 = (if n.leaf then 1 else 2) ∧ at2 (pageL n) 1 = n.recs.length ∧ (∀ j, j < n.recs.length → at2 (pageL n) (3 + 4 * n.kids.length + 4 * j) + at2 (pageL n) (3 + 4 * n.kids.length + 4 * j + 2) ≤ 1024) := by
  have hr := recs_le h
  obtain ⟨Z, hZ⟩ : ∃ Z, Z = List.replicate (1024 - (headL n).length - (tailL n.recs).length) (0 : UInt8) ++ tailL n.recs := ⟨_, rfl⟩
  have hp : pageL n = headL n ++ Z := by rw [hZ]; unfold pageL; rw [List.append_assoc]
  have p0 : pageL n = [] ++ ((if n.leaf then 1 else 2) :: (n2 n.recs.length ++ n.kids.flatMap n4 ++ slots 1024 n.recs ++ Z)) := by rw [hp]; unfold headL; simp
  have p1 : pageL n = [if n.leaf then 1 else 2] ++ (n2 n.recs.length ++ (n.kids.flatMap n4 ++ slots 1024 n.recs ++ Z)) := by rw [hp]; unfold headL; simp
  have p2 : pageL n = ([if n.leaf then 1 else 2] ++ n2 n.recs.length) ++ (n.kids.flatMap n4 ++ (slots 1024 n.recs ++ Z)) := by rw [hp]; unfold headL; simp
  have p3 : pageL n = ([if n.leaf then 1 else 2] ++ n2 n.recs.length ++ n.kids.flatMap n4) ++ (slots 1024 n.recs ++ Z) := by rw [hp]; unfold headL; simp
  have b0 : byteAt (pageL n) 0 = (if n.leaf then 1 else 2) := by
    rw [p0, byteAt_mid [] _ _ _ 0 rfl rfl]
    cases n.leaf <;> rfl
  have b1 : at2 (pageL n) 1 = n.recs.length := by rw [p1]; exact at2_mid _ _ _ _ (by omega) (by simp)
  have bk : ∀ j v, n.kids[j]? = some v → at4 (pageL n) (3 + 4 * j) = v := fun j v hj => by
    rw [p2]
    have := kids_read n.kids ([if n.leaf then 1 else 2] ++ n2 n.recs.length) (slots 1024 n.recs ++ Z) j v (fun x hx => by have := hs.low x hx; omega) hj
    simpa [n2] using this
  have o3 : ([if n.leaf then (1 : UInt8) else 2] ++ n2 n.recs.length ++ n.kids.flatMap n4).length = 3 + 4 * n.kids.length := by
    simp only [List.length_append, List.length_singleton, n4s_length]
    simp [n2]
  have bs : ∀ j v, n.recs[j]? = some v → at2 (pageL n) (3 + 4 * n.kids.length + 4 * j) = endAt 1024 n.recs j ∧ at2 (pageL n) (3 + 4 * n.kids.length + 4 * j + 2) = v.length := fun j v hj => by
    rw [p3, ← o3]
    exact slots_read n.recs 1024 _ Z j v (by omega) (fun x hx => by have := hs.recs x hx; omega) hj
  have hT : lens n.recs ≤ 1024 := by unfold Nd.size at h; omega
  have key : ∀ j v, n.recs[j]? = some v → lens n.recs = lens (n.recs.take j) + (v.length + lens (n.recs.drop (j + 1))) := fun j v hj => by
    have e := congrArg List.length (tail_split n.recs j v hj)
    simp only [List.length_append, tailL_length] at e
    omega
  have kt : ∀ j v, n.recs[j]? = some v → lens (n.recs.take (j + 1)) = lens (n.recs.take j) + v.length := fun j v hj => by
    rw [List.take_add_one, hj, lens_append]
    simp [lens]
  have be : ∀ j v, n.recs[j]? = some v → cut (pageL n) (endAt 1024 n.recs j) v.length = v := fun j v hj => by
    have hl := pageL_length h
    have e : pageL n = (headL n ++ List.replicate (1024 - (headL n).length - (tailL n.recs).length) 0 ++ tailL (n.recs.drop (j + 1))) ++ (v ++ tailL (n.recs.take j)) := by
      unfold pageL
      rw [tail_split n.recs j v hj]
      simp
    rw [e]
    refine cut_mid _ _ _ _ _ ?_ rfl
    have hl' := congrArg List.length e
    rw [hl] at hl'
    simp only [List.length_append, tailL_length] at hl' ⊢
    unfold endAt
    have h1 := key j v hj
    have h2 := kt j v hj
    omega
  refine ⟨?_, b0, b1, fun j hj => ?_⟩
  · have hleaf : (byteAt (pageL n) 0 == 1) = n.leaf := by
      rw [b0]
      cases n.leaf <;> rfl
    have ho : (if n.leaf = true then 3 else 3 + 4 * (n.recs.length + 1)) = 3 + 4 * n.kids.length := by
      rw [hs.kids]
      cases n.leaf <;> simp
    unfold readNd
    simp only [hleaf, b1, ho]
    obtain ⟨leaf, recs, kids⟩ := n
    simp only [Nd.mk.injEq, true_and]
    refine ⟨?_, ?_⟩
    · apply List.ext_getElem?
      intro j
      by_cases hj : j < recs.length
      · have hx : recs[j]? = some recs[j] := List.getElem?_eq_getElem hj
        obtain ⟨x1, x2⟩ := bs j _ hx
        simp only [List.getElem?_map, List.getElem?_range hj, Option.map_some]
        rw [hx, x1, x2, be j _ hx]
      · rw [List.getElem?_eq_none (by simp; omega), List.getElem?_eq_none (by omega)]
    · have hk := hs.kids
      simp only at hk
      cases leaf with
      | true =>
        simp only [if_true] at hk ⊢
        exact (List.eq_nil_of_length_eq_zero hk).symm
      | false =>
        simp only [Bool.false_eq_true, if_false] at hk ⊢
        apply List.ext_getElem?
        intro j
        by_cases hj : j < kids.length
        · have hx : kids[j]? = some kids[j] := List.getElem?_eq_getElem hj
          rw [List.getElem?_map, List.getElem?_range (by omega), hx]
          simp only [Option.map_some]
          rw [bk j _ hx]
        · rw [List.getElem?_eq_none (by simp; omega), List.getElem?_eq_none (by omega)]
  · have hx : n.recs[j]? = some n.recs[j] := List.getElem?_eq_getElem hj
    obtain ⟨x1, x2⟩ := bs j _ hx
    rw [x1, x2]
    unfold endAt
    have h1 := key j _ hx
    have h2 := kt j _ hx
    omega

/-- One page, one node. -/
theorem page_inj {n m : Nd} (hn : n.Shaped) (h : n.size ≤ 1024) (hm : m.Shaped) (h' : m.size ≤ 1024) (e : pageL n = pageL m) : n = m := by
  rw [← (read_page hn h).1, e, (read_page hm h').1]
end Go.Proofs.Ytgpahhlmpdnbpaa
