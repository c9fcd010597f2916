/-
  A node's page is written: what stands at the front, what at the end.
-/
import Derived.Test.YtgpahhlmpdnbpaaNdE
namespace Go.Proofs.Ytgpahhlmpdnbpaa
open Go.RowKit

/-- A page that is written from both ends. -/
def pageK (H T : List UInt8) : List UInt8 := H ++ List.replicate (1024 - H.length - T.length) 0 ++ T

theorem pageK_length (H T : List UInt8) (h : H.length + T.length ≤ 1024) : (pageK H T).length = 1024 := by
  unfold pageK; simp; omega

theorem over_head (H T x : List UInt8) (h : H.length + x.length + T.length ≤ 1024) : over (pageK H T) H.length x = pageK (H ++ x) T := by
  unfold over pageK
  have e1 : List.take H.length (H ++ List.replicate (1024 - H.length - T.length) 0 ++ T) = H := by rw [List.append_assoc]; simp
  have e2 : List.drop (H.length + x.length) (H ++ List.replicate (1024 - H.length - T.length) 0 ++ T) = List.replicate (1024 - (H ++ x).length - T.length) 0 ++ T := by
    rw [List.append_assoc, List.drop_append, List.drop_of_length_le (by omega), List.nil_append, Nat.add_sub_cancel_left, List.drop_append_of_le_length (by simp; omega), List.drop_replicate]
    congr 2
    simp; omega
  rw [e1, e2]
  simp

theorem over_tail (H T s : List UInt8) (h : H.length + s.length + T.length ≤ 1024) : over (pageK H T) (1024 - T.length - s.length) s = pageK H (s ++ T) := by
  unfold over pageK
  have e1 : List.take (1024 - T.length - s.length) (H ++ List.replicate (1024 - H.length - T.length) 0 ++ T) = H ++ List.replicate (1024 - H.length - (s ++ T).length) 0 := by
    rw [List.append_assoc, List.take_append, List.take_of_length_le (by omega), List.take_append_of_le_length (by simp; omega), List.take_replicate]
    congr 2
    simp; omega
  have e2 : List.drop (1024 - T.length - s.length + s.length) (H ++ List.replicate (1024 - H.length - T.length) 0 ++ T) = T := by
    rw [List.drop_append, List.drop_of_length_le (by simp; omega), List.nil_append]
    have : 1024 - T.length - s.length + s.length - (H ++ List.replicate (1024 - H.length - T.length) (0 : UInt8)).length = 0 := by simp; omega
    rw [this, List.drop_zero]
  rw [e1, e2]
  simp

theorem over_one (H T : List UInt8) (x y : UInt8) : (pageK (x :: H) T).set 0 y = pageK (y :: H) T := by
  unfold pageK; simp

theorem pageK_nil : pageK [] [] = List.replicate 1024 0 := by
  show [] ++ List.replicate 1024 0 ++ [] = _
  rw [List.nil_append, List.append_nil]

theorem over_first (y : UInt8) : (pageK [] []).set 0 y = pageK [y] [] := by
  have := over_head [] [] [y] (by simp)
  rw [List.nil_append] at this
  rw [← this, List.length_nil, ← over_cons _ 0 y [] (by rw [pageK_length _ _ (by simp)]; simp), over_nil]

/-- A node as lists of bytes. -/
def No.toNd (n : No) : Nd := ⟨n.leaf, n.recs.map (·.data.toList), n.kids.map Int.toNat⟩

theorem pageL_eq (n : Nd) : pageL n = pageK (headL n) (tailL n.recs) := rfl

theorem lens_toNd (l : List ByteArray) : lens (l.map (·.data.toList)) + 4 * l.length = weigh l := by
  induction l with
  | nil => rfl
  | cons s l ih =>
    rw [List.map_cons, lens_cons, List.length_cons]
    unfold weigh at ih ⊢
    rw [List.map_cons, List.sum_cons, ← ih]
    have : s.data.toList.length = s.size := rfl
    omega

theorem toNd_size (n : No) : n.toNd.size = n.size := by
  unfold Nd.size No.size No.toNd
  have := lens_toNd n.recs
  simp only [List.length_map]
  omega

theorem slots_snoc (l : List (List UInt8)) : ∀ (e : Nat) (r : List UInt8), slots e (l ++ [r]) = slots e l ++ n2 (e - lens l - r.length) ++ n2 r.length := by
  induction l with
  | nil => intro e r; simp [slots, lens]
  | cons x l ih =>
    intro e r
    rw [List.cons_append, slots, ih, slots, lens_cons]
    simp [Nat.sub_sub]

theorem tailL_snoc (l : List (List UInt8)) (r : List UInt8) : tailL (l ++ [r]) = r ++ tailL l := by simp [tailL]

/-- What stands at the front when j Kids and i entries are written. -/
def front (n : No) (j i : Nat) : List UInt8 := [if n.leaf then 1 else 2] ++ n2 n.recs.length ++ (n.toNd.kids.take j).flatMap n4 ++ slots 1024 (n.toNd.recs.take i)

theorem front_length (n : No) (j i : Nat) (hj : j ≤ n.kids.length) (hi : i ≤ n.recs.length) : (front n j i).length = 3 + 4 * j + 4 * i := by
  unfold front
  simp only [List.length_append, List.length_singleton, slots_length, n4s_length]
  have h1 : (n.toNd.kids.take j).length = j := by simp [No.toNd]; omega
  have h2 : (n.toNd.recs.take i).length = i := by simp [No.toNd]; omega
  rw [h1, h2]
  simp [n2]

theorem front_kid (n : No) (j : Nat) (h : j < n.kids.length) : front n (j + 1) 0 = front n j 0 ++ n4 n.kids[j].toNat := by
  unfold front
  have : n.toNd.kids.take (j + 1) = n.toNd.kids.take j ++ [n.kids[j].toNat] := by
    rw [List.take_succ_eq_append_getElem (by simpa [No.toNd] using h)]
    simp [No.toNd]
  rw [this]
  simp [slots]

theorem recs_take (n : No) (i : Nat) (h : i < n.recs.length) : n.toNd.recs.take (i + 1) = n.toNd.recs.take i ++ [n.recs[i].data.toList] := by
  rw [List.take_succ_eq_append_getElem (by simpa [No.toNd] using h)]
  simp [No.toNd]

theorem front_rec (n : No) (i : Nat) (h : i < n.recs.length) : front n n.kids.length (i + 1) = front n n.kids.length i ++ n2 (1024 - lens (n.toNd.recs.take (i + 1))) ++ n2 n.recs[i].size := by
  unfold front
  rw [recs_take n i h, slots_snoc, lens_append]
  have : lens [n.recs[i].data.toList] = n.recs[i].size := by simp [lens]
  rw [this, show n.recs[i].data.toList.length = n.recs[i].size from rfl, Nat.sub_sub]
  simp

theorem front_all (n : No) : front n n.kids.length n.recs.length = headL n.toNd := by
  unfold front headL
  rw [List.take_of_length_le (by simp [No.toNd]), List.take_of_length_le (by simp [No.toNd])]
  rw [show n.toNd.recs.length = n.recs.length by simp [No.toNd]]
  rfl

theorem lens_le (n : No) (i : Nat) : 3 + 4 * n.kids.length + 4 * n.recs.length + lens (n.toNd.recs.take i) ≤ n.size := by
  have h1 := lens_toNd n.recs
  have h2 : lens (n.toNd.recs.take i) ≤ lens n.toNd.recs := by
    conv => rhs; rw [← List.take_append_drop i n.toNd.recs]
    rw [lens_append]; omega
  unfold No.size
  have : n.toNd.recs = n.recs.map (·.data.toList) := rfl
  rw [this] at h2 ⊢
  omega
end Go.Proofs.Ytgpahhlmpdnbpaa
