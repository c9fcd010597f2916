/-
  Split; the document's Same.
-/
import Derived.Test.YtjocopclgehciaaGreatDoorMAR
import Derived.Test.YtjocopclgehciaaGreatDoorMAQ
import Derived.Test.YtjocopclgehciaaGreatDoorMAF
import Derived.Test.YtjocopclgehciaaGreatDoorMAE
import Derived.Test.YtjocopclgehciaaGreatDoorMAP
import Derived.Test.YtjocopclgehciaaGreatDoorMAA
namespace Go.Proofs.YtjocopclgehciaaGreatDoor.L5
open Go.RowKit

def No.lo (n : No) (k : Nat) : No := ⟨n.leaf, n.recs.take k, if n.leaf then [] else n.kids.take (k + 1)⟩
def No.hi (n : No) (k : Nat) : No := ⟨n.leaf, n.recs.drop (k + n.gap), if n.leaf then [] else n.kids.drop (k + 1)⟩

theorem Halves.weaken {w W0 W : World} {x y : No} {r1 k1 r2 k2 : Value} (h : Halves W0 x y r1 k1 r2 k2 W) (hb : Below w.heap.size w W0) : Halves w x y r1 k1 r2 k2 W :=
  ⟨owns_base h.a1 hb.size, owns_base h.a2 hb.size, owns_base h.b1 hb.size, owns_base h.b2 hb.size, h.ap1, h.ap2, below_on hb h.below⟩

/-- Two results in their cells, stored in order. -/
theorem split_out {w W : World} {x y : No} {r1 k1 r2 k2 : Value} (z2 : W.heap[w.heap.size + 1]? = some zNode) (z4 : W.heap[w.heap.size + 2]? = some zNode) (h : Halves w x y r1 k1 r2 k2 W) (u v : Value) :
    Out w x y u v r1 k1 r2 k2 (put3 (put3 W (w.heap.size + 1) u r1 k1) (w.heap.size + 2) v r2 k2) := by
  have b2 := put3_block z2 u r1 k1
  have b4 : (put3 W (w.heap.size + 1) u r1 k1).heap[w.heap.size + 2]? = some zNode := by rw [put3_other (by omega)]; exact z4
  have d4 := put3_block b4 v r2 k2
  have d2 : (put3 (put3 W (w.heap.size + 1) u r1 k1) (w.heap.size + 2) v r2 k2).heap[w.heap.size + 1]? = some (.cells #[u, r1, k1] 94 (0, 0)) := by rw [put3_other (by omega)]; exact b2
  have h1 := (h.put3 z2 (by omega) u r1 k1).put3 b4 (by omega) v r2 k2
  generalize put3 (put3 W (w.heap.size + 1) u r1 k1) (w.heap.size + 2) v r2 k2 = X at *
  have n2 := node_cells d2
  have n4 := node_cells d4
  exact ⟨n2.1, n2.2.1, n2.2.2, n4.1, n4.2.1, n4.2.2, h1⟩

theorem Halves.slices {w W : World} {x y : No} {r1 k1 r2 k2 : Value} (h : Halves w x y r1 k1 r2 k2 W) : ∃ a1 c1 a2 c2 a3 c3 a4 c4, r1 = .slice a1 x.recs.length c1 ∧ k1 = .slice a2 x.kids.length c2 ∧ r2 = .slice a3 y.recs.length c3 ∧ k2 = .slice a4 y.kids.length c4 := by
  obtain ⟨a1, c1, e1, _⟩ := owns_rd h.a1
  obtain ⟨a2, c2, e2, _⟩ := owns_rd h.a2
  obtain ⟨a3, c3, e3, _⟩ := owns_rd h.b1
  obtain ⟨a4, c4, e4, _⟩ := owns_rd h.b2
  exact ⟨a1, c1, a2, c2, a3, c3, a4, c4, e1, e2, e3, e4⟩

set_option maxRecDepth 100000 in
set_option maxHeartbeats 1000000 in
theorem split_leaf {n : No} {a : Option Addr} {c : Nat} {a' : Option Addr} {c' : Nat} {w : World} (hr : NR w n a c a' c') (hs : n.small) (hlf : n.leaf = true) (h2 : 2 ≤ n.recs.length) (k : Nat) (hk : k = cutN 4 0 n.recs) (s : ByteArray) (hsk : n.recs[k]? = some s) :
    Calls Tryz.prog 104 #[nodeV n a c a' c'] w fun e w' => ∃ r1 k1 r2 k2, e = .returned (.tuple #[.agg #[.bool true, r1, k1], .string s, .agg #[.bool true, r2, k2]]) ∧ Halves w (leafL n k) (leafR n k) r1 k1 r2 k2 w' := by
  have HN : Hid (SW w n a c a' c' (((w.alloc (.cells #[.bool n.leaf, .slice a n.recs.length c, .slice a' n.kids.length c'] 94)).alloc (.cells #[.bool false, .slice none 0 0, .slice none 0 0] 94)).alloc (.cells #[.bool false, .slice none 0 0, .slice none 0 0] 94))) := SW.new _ _ _ _ _ _
  have HC := hid (splitLeaf_walk (hr.below HN.out.bx.below) hs hlf h2  k hk s hsk)
  unfold nodeV at HC
  rw [hlf] at HC HN
  clear hk hr
  go_enter Tryz.func104, Tryz.ntmps104
  unfold nodeV
  rw [hlf]
  go_wp2_with fail
  generalize ((w.alloc (.cells #[.bool true, .slice a n.recs.length c, .slice a' n.kids.length c'] 94)).alloc (.cells #[.bool false, .slice none 0 0, .slice none 0 0] 94)).alloc (.cells #[.bool false, .slice none 0 0, .slice none 0 0] 94) = W0 at *
  refine HC.out.mono ?_
  rintro e w1 ⟨r1, k1, r2, k2, rfl, hh⟩
  have HS1 : Hid (SW w n a c a' c' w1) := HN.out.on hh.below
  have HH : Hid (Halves w (leafL n k) (leafR n k) r1 k1 r2 k2 w1) := hh.weaken HN.out.bx.below
  clear hh HC HN
  obtain ⟨y1, t1, y2, t2, y3, t3, y4, t4, rfl, rfl, rfl, rfl⟩ := HH.out.slices
  obtain ⟨l20, l21, l22⟩ := node_cells HS1.out.z2
  obtain ⟨l40, l41, l42⟩ := node_cells HS1.out.z4
  have f2 : ∀ i, w1.frozen? ⟨w.heap.size + 1, i, none⟩ = false := fun i => frozen_of_row _ _ _ _ _ HS1.out.z2
  have f4 : ∀ i, w1.frozen? ⟨w.heap.size + 2, i, none⟩ = false := fun i => frozen_of_row _ _ _ _ _ HS1.out.z4
  have e9 := set_far (p := w.heap.size + 1) (q := w.heap.size + 2) (by omega)
  generalize (leafL n k).recs.length = q1 at *
  generalize (leafL n k).kids.length = q2 at *
  generalize (leafR n k).recs.length = q3 at *
  generalize (leafR n k).kids.length = q4 at *
  go_wp2_with fail
  refine to_letter (split_out HS1.out.z2 HS1.out.z4 HH.out (.bool true) (.bool true)) ?_
  clear l20 l21 l22 l40 l41 l42 f2 f4 e9 HS1 HH
  intro Wf hF
  obtain ⟨g20, g21, g22, g40, g41, g42, hF⟩ := hF
  refine bodyPost_ret (v := .tuple #[.agg #[.bool true, .slice y1 q1 t1, .slice y2 q2 t2], .string s, .agg #[.bool true, .slice y3 q3 t3, .slice y4 q4 t4]]) ?_ rfl ?_
  · simp [results, Tryz.results104, go_sem, g20, g21, g22, g40, g41, g42]
  · exact ⟨_, _, _, _, rfl, hF⟩

set_option maxRecDepth 100000 in
set_option maxHeartbeats 1000000 in
theorem split_inner {n : No} {a : Option Addr} {c : Nat} {a' : Option Addr} {c' : Nat} {w : World} (hr : NR w n a c a' c') (hs : n.small) (hlf : n.leaf = false) (h2 : 3 ≤ n.recs.length) (hkl : n.kids.length = n.recs.length + 1) (k : Nat) (hk : k = cutN 8 1 n.recs) (s : ByteArray) (hsk : n.recs[k]? = some s) :
    Calls Tryz.prog 104 #[nodeV n a c a' c'] w fun e w' => ∃ r1 k1 r2 k2, e = .returned (.tuple #[.agg #[.bool false, r1, k1], .string s, .agg #[.bool false, r2, k2]]) ∧ Halves w (innL n k) (innR n k) r1 k1 r2 k2 w' := by
  have HN : Hid (SW w n a c a' c' (((w.alloc (.cells #[.bool n.leaf, .slice a n.recs.length c, .slice a' n.kids.length c'] 94)).alloc (.cells #[.bool false, .slice none 0 0, .slice none 0 0] 94)).alloc (.cells #[.bool false, .slice none 0 0, .slice none 0 0] 94))) := SW.new _ _ _ _ _ _
  have HC := hid (splitInner_walk (hr.below HN.out.bx.below) hs hlf h2 hkl k hk s hsk)
  unfold nodeV at HC
  rw [hlf] at HC HN
  clear hk hr hkl
  go_enter Tryz.func104, Tryz.ntmps104
  unfold nodeV
  rw [hlf]
  go_wp2_with fail
  generalize ((w.alloc (.cells #[.bool false, .slice a n.recs.length c, .slice a' n.kids.length c'] 94)).alloc (.cells #[.bool false, .slice none 0 0, .slice none 0 0] 94)).alloc (.cells #[.bool false, .slice none 0 0, .slice none 0 0] 94) = W0 at *
  refine HC.out.mono ?_
  rintro e w1 ⟨r1, k1, r2, k2, rfl, hh⟩
  have HS1 : Hid (SW w n a c a' c' w1) := HN.out.on hh.below
  have HH : Hid (Halves w (innL n k) (innR n k) r1 k1 r2 k2 w1) := hh.weaken HN.out.bx.below
  clear hh HC HN
  obtain ⟨y1, t1, y2, t2, y3, t3, y4, t4, rfl, rfl, rfl, rfl⟩ := HH.out.slices
  obtain ⟨l20, l21, l22⟩ := node_cells HS1.out.z2
  obtain ⟨l40, l41, l42⟩ := node_cells HS1.out.z4
  have f2 : ∀ i, w1.frozen? ⟨w.heap.size + 1, i, none⟩ = false := fun i => frozen_of_row _ _ _ _ _ HS1.out.z2
  have f4 : ∀ i, w1.frozen? ⟨w.heap.size + 2, i, none⟩ = false := fun i => frozen_of_row _ _ _ _ _ HS1.out.z4
  have e9 := set_far (p := w.heap.size + 1) (q := w.heap.size + 2) (by omega)
  generalize (innL n k).recs.length = q1 at *
  generalize (innL n k).kids.length = q2 at *
  generalize (innR n k).recs.length = q3 at *
  generalize (innR n k).kids.length = q4 at *
  go_wp2_with fail
  refine to_letter (split_out HS1.out.z2 HS1.out.z4 HH.out (.bool false) (.bool false)) ?_
  clear l20 l21 l22 l40 l41 l42 f2 f4 e9 HS1 HH
  intro Wf hF
  obtain ⟨g20, g21, g22, g40, g41, g42, hF⟩ := hF
  refine bodyPost_ret (v := .tuple #[.agg #[.bool false, .slice y1 q1 t1, .slice y2 q2 t2], .string s, .agg #[.bool false, .slice y3 q3 t3, .slice y4 q4 t4]]) ?_ rfl ?_
  · simp [results, Tryz.results104, go_sem, g20, g21, g22, g40, g41, g42]
  · exact ⟨_, _, _, _, rfl, hF⟩

theorem split_walk {n : No} {a : Option Addr} {c : Nat} {a' : Option Addr} {c' : Nat} {w : World} (hr : NR w n a c a' c') (hs : n.small) (h2 : n.gap + 2 ≤ n.recs.length) (hkl : n.leaf = false → n.kids.length = n.recs.length + 1) (s : ByteArray) (hsk : n.recs[n.cut]? = some s) :
    Calls Tryz.prog 104 #[nodeV n a c a' c'] w fun e w' => ∃ r1 k1 r2 k2, e = .returned (.tuple #[.agg #[.bool n.leaf, r1, k1], .string s, .agg #[.bool n.leaf, r2, k2]]) ∧ Halves w (n.lo n.cut) (n.hi n.cut) r1 k1 r2 k2 w' := by
  have hg : n.gap = if n.leaf then 0 else 1 := rfl
  cases hlf : n.leaf
  · have hg1 : n.gap = 1 := by rw [hg, hlf]; rfl
    have e1 : n.lo n.cut = innL n n.cut := by unfold No.lo innL; rw [hlf]; rfl
    have e2 : n.hi n.cut = innR n n.cut := by unfold No.hi innR; rw [hlf, hg1]; rfl
    rw [e1, e2]
    exact split_inner hr hs hlf (by omega) (hkl hlf) n.cut (cut_inner hlf) s hsk
  · have hg0 : n.gap = 0 := by rw [hg, hlf]; rfl
    have e1 : n.lo n.cut = leafL n n.cut := by unfold No.lo leafL; rw [hlf]; rfl
    have e2 : n.hi n.cut = leafR n n.cut := by unfold No.hi leafR; rw [hlf, hg0]; rfl
    rw [e1, e2]
    exact split_leaf hr hs hlf (by omega) n.cut (cut_leaf hlf) s hsk
end Go.Proofs.YtjocopclgehciaaGreatDoor.L5
/-
  Tree: a tree of pages, plain: what it is, and the way to a text in it. Of no program's text.
-/
namespace Go.Proofs.YtjocopclgehciaaGreatDoor
open Go.RowKit
open L4 (Abs)
open L5 (ltP ltB leB)

/-- A step, as a page, its node, and with which of its Kids the way goes on. -/
structure Pl where
  at_ : Nat
  n : L5.No
  kid : Nat

/-- A page holds a node. -/
structure Holds (a : Abs) (at_ : Nat) (n : L5.No) : Prop where
  page : a.at (at_ : Int) = some (L5.pageL n.toNd)
  shaped : n.shaped = true
  size : n.size ≤ 1024
  small : n.small

/-- The way of k from a page of a height. -/
inductive Path (a : Abs) (k : ByteArray) : Nat → Nat → List Pl → Prop
  | leaf {at_ : Nat} {n : L5.No} (h : Holds a at_ n) (hl : n.leaf = true) : Path a k 1 at_ [⟨at_, n, 0⟩]
  | inner {h at_ at' : Nat} {n : L5.No} {rest : List Pl} (hn : Holds a at_ n) (hl : n.leaf = false) (hk : n.kids[n.recs.countP (L5.leB k)]? = some (at' : Int)) (hr : Path a k h at' rest) : Path a k (h + 1) at_ (⟨at_, n, n.recs.countP (L5.leB k)⟩ :: rest)

theorem Path.pos {a : Abs} {k : ByteArray} {h at_ : Nat} {l : List Pl} (p : Path a k h at_ l) : l.length = h ∧ 1 ≤ h := by
  induction p with
  | leaf => exact ⟨rfl, Nat.le_refl _⟩
  | inner _ _ _ _ ih => exact ⟨by simp [ih.1], by omega⟩

/-- At most. -/
def leP (x y : ByteArray) : Prop := Op.bytesLess y.toList x.toList = false

theorem ba_ext {x y : ByteArray} (h : x.toList = y.toList) : x = y := by
  rw [ByteArray.toList_eq, ByteArray.toList_eq] at h
  exact ByteArray.ext (Array.toList_inj.1 h)

theorem lt_tr {x y z : ByteArray} (h1 : ltP x y) (h2 : ltP y z) : ltP x z := L5.lt_trans_b h1 h2
theorem lt_irr (x : ByteArray) : ¬ ltP x x := fun h => by unfold ltP at h; rw [L5.lt_irrefl_b] at h; cases h
theorem le_lt {x y z : ByteArray} (h1 : leP x y) (h2 : ltP y z) : ltP x z := L5.le_lt_b h1 h2
theorem le_or {x y : ByteArray} : leP x y ↔ ltP x y ∨ x = y := by
  have := L5.le_not_lt x.toList y.toList
  unfold leP ltP
  constructor
  · intro h
    rw [h] at this
    simp only [Bool.not_false, Bool.or_eq_true, beq_iff_eq] at this
    exact this.imp id ba_ext
  · rintro (h | h)
    · rw [h] at this
      simpa using this.symm
    · rw [h]; exact L5.lt_irrefl_b _
theorem lt_le {x y z : ByteArray} (h1 : ltP x y) (h2 : leP y z) : ltP x z := by
  rcases le_or.1 h2 with h | h
  · exact lt_tr h1 h
  · exact h ▸ h1
theorem le_tr {x y z : ByteArray} (h1 : leP x y) (h2 : leP y z) : leP x z := by
  rcases le_or.1 h1 with h | h
  · exact le_or.2 (Or.inl (lt_le h h2))
  · exact h ▸ h2
theorem le_rf (x : ByteArray) : leP x x := L5.lt_irrefl_b _
theorem le_of {x y : ByteArray} (h : ltP x y) : leP x y := le_or.2 (Or.inl h)
theorem not_lt {x y : ByteArray} : ¬ ltP x y ↔ leP y x := by unfold ltP leP; simp
theorem lt_or (x y : ByteArray) : ltP x y ∨ leP y x := by
  by_cases h : ltP x y
  · exact Or.inl h
  · exact Or.inr (not_lt.1 h)
theorem ltB_iff {k r : ByteArray} : ltB k r = true ↔ ltP r k := Iff.rfl
theorem ltB_no {k r : ByteArray} : ltB k r = false ↔ leP k r := Iff.rfl
theorem leB_iff {k r : ByteArray} : leB k r = true ↔ leP r k := by
  unfold leB leP
  rw [L5.le_not_lt]
  simp
theorem leB_no {k r : ByteArray} : leB k r = false ↔ ltP k r := by
  unfold leB ltP
  rw [L5.le_not_lt]
  simp

def e0 : ByteArray := ⟨#[]⟩
theorem e0_size : e0.size = 0 := rfl
theorem le_e0 (x : ByteArray) : leP e0 x := by
  unfold leP
  rw [show e0.toList = [] by rw [ByteArray.toList_eq]; rfl]
  cases x.toList <;> rfl

/-- From lo on, and below hi, if that isn't empty. -/
def inB (lo hi k : ByteArray) : Prop := leP lo k ∧ (hi.size = 0 ∨ ltP k hi)

/-- The Kids of a node, parted by its Recs. -/
inductive Subs (P : Nat → ByteArray → ByteArray → List ByteArray → List Nat → Prop) (hi : ByteArray) : ByteArray → List ByteArray → List Int → List ByteArray → List Nat → Prop
  | one {lo : ByteArray} {c : Nat} {es : List ByteArray} {ps : List Nat} (h : P c lo hi es ps) : Subs P hi lo [] [(c : Int)] es ps
  | more {lo r : ByteArray} {c : Nat} {es1 es2 rs : List ByteArray} {cs : List Int} {ps1 ps2 : List Nat} (h : P c lo r es1 ps1) (t : Subs P hi r rs cs es2 ps2) : Subs P hi lo (r :: rs) ((c : Int) :: cs) (es1 ++ es2) (ps1 ++ ps2)

/-- What a node of height h + 1 has: its entries, and the pages below it. -/
def Body (P : Nat → ByteArray → ByteArray → List ByteArray → List Nat → Prop) (h : Nat) (n : L5.No) (lo hi : ByteArray) (es : List ByteArray) (ps : List Nat) : Prop :=
  (∀ r ∈ n.recs, inB lo hi r) ∧ ((h = 0 ∧ n.leaf = true ∧ es = n.recs ∧ ps = []) ∨ (h ≠ 0 ∧ n.leaf = false ∧ Subs P hi lo n.recs n.kids es ps))

/-- A page is the root of a tree of this height, with these entries between lo and hi, and these pages. -/
def Sub (a : Abs) : Nat → Nat → ByteArray → ByteArray → List ByteArray → List Nat → Prop
  | 0, _, _, _, _, _ => False
  | h + 1, at_, lo, hi, es, ps => ∃ n ps', Holds a at_ n ∧ ps = at_ :: ps' ∧ Body (Sub a h) h n lo hi es ps'

theorem Subs.mono {P P' : Nat → ByteArray → ByteArray → List ByteArray → List Nat → Prop} {hi lo : ByteArray} {rs es : List ByteArray} {cs : List Int} {ps : List Nat} (k : Subs P hi lo rs cs es ps) (h : ∀ c lo hi es q, (∀ p ∈ q, p ∈ ps) → P c lo hi es q → P' c lo hi es q) : Subs P' hi lo rs cs es ps := by
  induction k with
  | one hP => exact .one (h _ _ _ _ _ (fun p hp => hp) hP)
  | more hP _ ih => exact .more (h _ _ _ _ _ (fun p hp => List.mem_append_left _ hp) hP) (ih fun c lo hi es q hq => h c lo hi es q fun p hp => List.mem_append_right _ (hq p hp))

/-- Pages elsewhere don't matter. -/
theorem Sub.frame {a a' : Abs} : ∀ {h at_ : Nat} {lo hi : ByteArray} {es : List ByteArray} {ps : List Nat}, Sub a h at_ lo hi es ps → (∀ p ∈ ps, a'.at (p : Int) = a.at (p : Int)) → Sub a' h at_ lo hi es ps := by
  intro h
  induction h with
  | zero => intro _ _ _ _ _ k; exact k.elim
  | succ h ih =>
    intro at_ lo hi es ps k hp
    obtain ⟨n, ps', hn, rfl, hb, hc⟩ := k
    refine ⟨n, ps', ⟨(hp at_ (by simp)).trans hn.page, hn.shaped, hn.size, hn.small⟩, rfl, hb, hc.imp id fun ⟨h1, h2, h3⟩ => ⟨h1, h2, h3.mono fun c lo hi es q hq hP => ih hP fun p hpq => hp p (by simp [hq p hpq])⟩⟩

theorem Subs.each {P : Nat → ByteArray → ByteArray → List ByteArray → List Nat → Prop} {Q : Nat → Prop} (hP : ∀ c lo hi es q, P c lo hi es q → ∀ p ∈ q, Q p) {hi lo : ByteArray} {rs es : List ByteArray} {cs : List Int} {ps : List Nat} (k : Subs P hi lo rs cs es ps) : ∀ p ∈ ps, Q p := by
  induction k with
  | one h => exact hP _ _ _ _ _ h
  | more h _ ih =>
    intro p hp
    rcases List.mem_append.1 hp with hp | hp
    · exact hP _ _ _ _ _ h p hp
    · exact ih p hp

theorem Sub.pages {a : Abs} : ∀ {h at_ : Nat} {lo hi : ByteArray} {es : List ByteArray} {ps : List Nat}, Sub a h at_ lo hi es ps → ∀ p ∈ ps, ∃ c, a.at (p : Int) = some c := by
  intro h
  induction h with
  | zero => intro _ _ _ _ _ k; exact k.elim
  | succ h ih =>
    intro at_ lo hi es ps k p hp
    obtain ⟨n, ps', hn, rfl, hb, hc⟩ := k
    rcases List.mem_cons.1 hp with rfl | hp
    · exact ⟨_, hn.page⟩
    · rcases hc with ⟨_, _, _, rfl⟩ | ⟨_, _, hs⟩
      · cases hp
      · exact hs.each (fun c lo hi es q k => ih k) p hp

theorem inB.sub {lo hi lo' hi' k : ByteArray} (h : inB lo' hi' k) (h1 : leP lo lo') (h2 : hi.size = 0 ∨ (hi'.size ≠ 0 ∧ leP hi' hi)) : inB lo hi k := by
  refine ⟨le_tr h1 h.1, ?_⟩
  rcases h2 with h2 | ⟨h2, h3⟩
  · exact Or.inl h2
  · exact Or.inr (lt_le (h.2.resolve_left h2) h3)

theorem Subs.bounds {P : Nat → ByteArray → ByteArray → List ByteArray → List Nat → Prop} (hP : ∀ c lo hi es ps, P c lo hi es ps → ∀ e ∈ es, inB lo hi e) {hi lo : ByteArray} {rs es : List ByteArray} {cs : List Int} {ps : List Nat} (k : Subs P hi lo rs cs es ps) : (∀ r ∈ rs, r.size ≠ 0 ∧ inB lo hi r) → rs.Pairwise ltP → ∀ e ∈ es, inB lo hi e := by
  induction k with
  | one h => intro _ _; exact hP _ _ _ _ _ h
  | @more lo r c es1 es2 rs cs ps1 ps2 h t ih =>
    intro hr hw e he
    obtain ⟨z, hb⟩ := hr r (by simp)
    rcases List.mem_append.1 he with he | he
    · refine (hP _ _ _ _ _ h e he).sub (le_rf _) ?_
      rcases hb.2 with h2 | h2
      · exact Or.inl h2
      · exact Or.inr ⟨z, le_of h2⟩
    · refine (ih (fun q hq => ⟨(hr q (by simp [hq])).1, le_of ((List.pairwise_cons.1 hw).1 q hq), (hr q (by simp [hq])).2.2⟩) (List.pairwise_cons.1 hw).2 e he).sub hb.1 ?_
      by_cases h0 : hi.size = 0
      · exact Or.inl h0
      · exact Or.inr ⟨h0, le_rf _⟩

/-- A shaped node's Recs. -/
theorem shaped_recs {n : L5.No} (h : n.shaped = true) : (∀ s ∈ n.recs, 1 ≤ s.size ∧ s.size ≤ 400) ∧ n.recs.Pairwise ltP := by
  rw [L5.shaped_eq] at h
  exact (L5.rises_iff _).1 (by simpa using (Bool.and_eq_true_iff.1 h).1)

theorem Sub.bounds {a : Abs} : ∀ {h at_ : Nat} {lo hi : ByteArray} {es : List ByteArray} {ps : List Nat}, Sub a h at_ lo hi es ps → ∀ e ∈ es, inB lo hi e := by
  intro h
  induction h with
  | zero => intro _ _ _ _ _ k; exact k.elim
  | succ h ih =>
    intro at_ lo hi es ps k
    obtain ⟨n, ps', hn, rfl, hb, hc⟩ := k
    rcases hc with ⟨_, _, rfl, _⟩ | ⟨_, _, hs⟩
    · exact hb
    · obtain ⟨h1, h2⟩ := shaped_recs hn.shaped
      exact hs.bounds (fun c lo hi es ps k => ih k) (fun r hr => ⟨by have := (h1 r hr).1; omega, hb r hr⟩) h2

theorem Subs.rising {P : Nat → ByteArray → ByteArray → List ByteArray → List Nat → Prop} (hP : ∀ c lo hi es ps, P c lo hi es ps → (∀ e ∈ es, inB lo hi e ∧ 1 ≤ e.size ∧ e.size ≤ 400) ∧ es.Pairwise ltP) {hi lo : ByteArray} {rs es : List ByteArray} {cs : List Int} {ps : List Nat} (k : Subs P hi lo rs cs es ps) : (∀ r ∈ rs, r.size ≠ 0 ∧ inB lo hi r) → rs.Pairwise ltP → (∀ e ∈ es, 1 ≤ e.size ∧ e.size ≤ 400) ∧ es.Pairwise ltP := by
  induction k with
  | one h => intro _ _; exact ⟨fun e he => ((hP _ _ _ _ _ h).1 e he).2, (hP _ _ _ _ _ h).2⟩
  | @more lo r c es1 es2 rs cs ps1 ps2 h t ih =>
    intro hr hw
    obtain ⟨z, hb⟩ := hr r (by simp)
    have hr' : ∀ q ∈ rs, q.size ≠ 0 ∧ inB r hi q := fun q hq => ⟨(hr q (by simp [hq])).1, le_of ((List.pairwise_cons.1 hw).1 q hq), (hr q (by simp [hq])).2.2⟩
    have i2 := ih hr' (List.pairwise_cons.1 hw).2
    have b2 := t.bounds (fun c lo hi es ps k e he => ((hP _ _ _ _ _ k).1 e he).1) hr' (List.pairwise_cons.1 hw).2
    obtain ⟨h1, h2⟩ := hP _ _ _ _ _ h
    refine ⟨fun e he => ?_, ?_⟩
    · rcases List.mem_append.1 he with he | he
      · exact (h1 e he).2
      · exact i2.1 e he
    · rw [List.pairwise_append]
      exact ⟨h2, i2.2, fun x hx y hy => lt_le ((h1 x hx).1.2.resolve_left z) (b2 y hy).1⟩

/-- A tree's entries rise. -/
theorem Sub.rising {a : Abs} : ∀ {h at_ : Nat} {lo hi : ByteArray} {es : List ByteArray} {ps : List Nat}, Sub a h at_ lo hi es ps → (∀ e ∈ es, inB lo hi e ∧ 1 ≤ e.size ∧ e.size ≤ 400) ∧ es.Pairwise ltP := by
  intro h
  induction h with
  | zero => intro _ _ _ _ _ k; exact k.elim
  | succ h ih =>
    intro at_ lo hi es ps k
    have kb := k.bounds
    obtain ⟨n, ps', hn, rfl, hb, hc⟩ := k
    obtain ⟨h1, h2⟩ := shaped_recs hn.shaped
    rcases hc with ⟨_, _, rfl, _⟩ | ⟨_, _, hs⟩
    · exact ⟨fun e he => ⟨hb e he, h1 e he⟩, h2⟩
    · have := hs.rising (fun c lo hi es ps k => ih k) (fun r hr => ⟨by have := (h1 r hr).1; omega, hb r hr⟩) h2
      exact ⟨fun e he => ⟨kb e he, this.1 e he⟩, this.2⟩

/-- Those on the left of one of the Kids, each with the entry behind it. -/
inductive SubL (P : Nat → ByteArray → ByteArray → List ByteArray → List Nat → Prop) (lo' : ByteArray) : ByteArray → List ByteArray → List Int → List ByteArray → List Nat → Prop
  | nil : SubL P lo' lo' [] [] [] []
  | cons {lo r : ByteArray} {c : Nat} {es1 es2 rs : List ByteArray} {cs : List Int} {ps1 ps2 : List Nat} (h : P c lo r es1 ps1) (t : SubL P lo' r rs cs es2 ps2) : SubL P lo' lo (r :: rs) ((c : Int) :: cs) (es1 ++ es2) (ps1 ++ ps2)

/-- Those on the right. -/
def SubR (P : Nat → ByteArray → ByteArray → List ByteArray → List Nat → Prop) (hi' hi : ByteArray) (rr : List ByteArray) (kr : List Int) (es : List ByteArray) (ps : List Nat) : Prop :=
  (rr = [] ∧ kr = [] ∧ es = [] ∧ ps = [] ∧ hi' = hi) ∨ ∃ rs, rr = hi' :: rs ∧ Subs P hi hi' rs kr es ps

theorem SubL.mono {P P' : Nat → ByteArray → ByteArray → List ByteArray → List Nat → Prop} {lo' lo : ByteArray} {rs es : List ByteArray} {cs : List Int} {ps : List Nat} (k : SubL P lo' lo rs cs es ps) (h : ∀ c lo hi es q, (∀ p ∈ q, p ∈ ps) → P c lo hi es q → P' c lo hi es q) : SubL P' lo' lo rs cs es ps := by
  induction k with
  | nil => exact .nil
  | cons hP _ ih => exact .cons (h _ _ _ _ _ (fun p hp => List.mem_append_left _ hp) hP) (ih fun c lo hi es q hq => h c lo hi es q fun p hp => List.mem_append_right _ (hq p hp))

theorem SubR.mono {P P' : Nat → ByteArray → ByteArray → List ByteArray → List Nat → Prop} {hi' hi : ByteArray} {rs es : List ByteArray} {cs : List Int} {ps : List Nat} (k : SubR P hi' hi rs cs es ps) (h : ∀ c lo hi es q, (∀ p ∈ q, p ∈ ps) → P c lo hi es q → P' c lo hi es q) : SubR P' hi' hi rs cs es ps :=
  k.imp id fun ⟨rs, e, t⟩ => ⟨rs, e, t.mono h⟩

theorem SubL.low {P : Nat → ByteArray → ByteArray → List ByteArray → List Nat → Prop} {lo' lo : ByteArray} {rs es : List ByteArray} {cs : List Int} {ps : List Nat} (k : SubL P lo' lo rs cs es ps) : lo' = lo ∧ rs = [] ∨ rs.getLast? = some lo' := by
  induction k with
  | nil => exact Or.inl ⟨rfl, rfl⟩
  | @cons lo r c es1 es2 rs cs ps1 ps2 _ t ih =>
    right
    rcases ih with ⟨rfl, rfl⟩ | ih
    · rfl
    · rw [List.getLast?_cons]; simp [ih]

/-- Put together again. -/
theorem subs_tail {P : Nat → ByteArray → ByteArray → List ByteArray → List Nat → Prop} {lo' lo hi : ByteArray} {rl rs es1 es2 : List ByteArray} {kl ks : List Int} {ps1 ps2 : List Nat} (k : SubL P lo' lo rl kl es1 ps1) (t : Subs P hi lo' rs ks es2 ps2) : Subs P hi lo (rl ++ rs) (kl ++ ks) (es1 ++ es2) (ps1 ++ ps2) := by
  induction k with
  | nil => exact t
  | cons h _ ih => rw [List.append_assoc, List.append_assoc]; exact .more h ih

theorem subs_head {P : Nat → ByteArray → ByteArray → List ByteArray → List Nat → Prop} {lo' hi' hi : ByteArray} {rr es es2 : List ByteArray} {c : Nat} {kr : List Int} {ps ps2 : List Nat} (h : P c lo' hi' es ps) (t : SubR P hi' hi rr kr es2 ps2) : Subs P hi lo' rr ((c : Int) :: kr) (es ++ es2) (ps ++ ps2) := by
  rcases t with ⟨rfl, rfl, rfl, rfl, rfl⟩ | ⟨rs, rfl, t⟩
  · rw [List.append_nil, List.append_nil]; exact .one h
  · exact .more h t

/-- The way down from a node. -/
theorem subs_find {P : Nat → ByteArray → ByteArray → List ByteArray → List Nat → Prop} (hP : ∀ c lo hi es ps, P c lo hi es ps → ∀ e ∈ es, inB lo hi e) {hi lo k : ByteArray} {rs es : List ByteArray} {cs : List Int} {ps : List Nat} (h : Subs P hi lo rs cs es ps) : (∀ r ∈ rs, r.size ≠ 0 ∧ inB lo hi r) → rs.Pairwise ltP → inB lo hi k →
    ∃ (c : Nat) (lo' hi' : ByteArray) (rl rr : List ByteArray) (kl kr : List Int) (es1 es' es2 : List ByteArray) (ps1 ps' ps2 : List Nat), rs = rl ++ rr ∧ cs = kl ++ (c : Int) :: kr ∧ rl.length = rs.countP (leB k) ∧ kl.length = rs.countP (leB k) ∧ SubL P lo' lo rl kl es1 ps1 ∧ P c lo' hi' es' ps' ∧ SubR P hi' hi rr kr es2 ps2 ∧ es = es1 ++ es' ++ es2 ∧ ps = ps1 ++ ps' ++ ps2 ∧ inB lo' hi' k ∧ (∀ e ∈ es1, ltP e k) ∧ (∀ e ∈ es2, ltP k e) := by
  induction h with
  | @one lo c es ps h =>
    intro _ _ hk
    exact ⟨c, lo, hi, [], [], [], [], [], es, [], [], ps, [], rfl, rfl, rfl, rfl, .nil, h, Or.inl ⟨rfl, rfl, rfl, rfl, rfl⟩, by simp, by simp, hk, by simp, by simp⟩
  | @more lo r c es1 es2 rs cs ps1 ps2 h t ih =>
    intro hr hw hk
    have hr' : ∀ q ∈ rs, q.size ≠ 0 ∧ inB r hi q := fun q hq => ⟨(hr q (by simp [hq])).1, le_of ((List.pairwise_cons.1 hw).1 q hq), (hr q (by simp [hq])).2.2⟩
    obtain ⟨z, hb⟩ := hr r (by simp)
    rcases lt_or k r with hkr | hkr
    · have hz : (r :: rs).countP (leB k) = 0 := by
        rw [List.countP_eq_zero]
        intro q hq
        rw [show leB k q = false from leB_no.2 (by
          rcases List.mem_cons.1 hq with rfl | hq
          · exact hkr
          · exact lt_tr hkr ((List.pairwise_cons.1 hw).1 q hq))]
        decide
      refine ⟨c, lo, r, [], r :: rs, [], cs, [], es1, es2, [], ps1, ps2, rfl, rfl, hz.symm, hz.symm, .nil, h, Or.inr ⟨rs, rfl, t⟩, by simp, by simp, ⟨hk.1, Or.inr hkr⟩, by simp, fun e he => ?_⟩
      exact lt_le hkr (t.bounds hP hr' (List.pairwise_cons.1 hw).2 e he).1
    · obtain ⟨c', lo', hi', rl, rr, kl, kr, f1, f', f2, p1, p', p2, e1, e2, e3, e4, e5, e6, e7, e8, e9, e10, e11, e12⟩ := ih hr' (List.pairwise_cons.1 hw).2 ⟨hkr, hk.2⟩
      have hc : (r :: rs).countP (leB k) = rs.countP (leB k) + 1 := by
        rw [List.countP_cons, if_pos (leB_iff.2 hkr)]
      refine ⟨c', lo', hi', r :: rl, rr, (c : Int) :: kl, kr, es1 ++ f1, f', f2, ps1 ++ p1, p', p2, by rw [e1]; rfl, by rw [e2]; rfl, by rw [hc]; simp [e3], by rw [hc]; simp [e4], .cons h e5, e6, e7, by rw [e8]; simp, by rw [e9]; simp, e10, fun e he => ?_, e12⟩
      rcases List.mem_append.1 he with he | he
      · exact lt_le ((hP _ _ _ _ _ h e he).2.resolve_left z) hkr
      · exact e11 e he

/-- What is around a page in a tree: the nodes above it, nearest first; the entries on both sides; the other pages. -/
inductive Ctx (a : Abs) (H R : Nat) : List Pl → Nat → Nat → ByteArray → ByteArray → List ByteArray → List ByteArray → List Nat → Prop
  | root : Ctx a H R [] H R e0 e0 [] [] []
  | up {u : Pl} {us : List Pl} {h at_ : Nat} {lo hi lo' hi' : ByteArray} {rl rr esl esr esL esR : List ByteArray} {kl kr : List Int} {psl psr psO : List Nat} (hn : Holds a u.at_ u.n) (hl : u.n.leaf = false) (hb : ∀ r ∈ u.n.recs, inB lo hi r) (er : u.n.recs = rl ++ rr) (ek : u.n.kids = kl ++ (at_ : Int) :: kr) (e1 : rl.length = u.kid) (e2 : kl.length = u.kid) (hh : h ≠ 0) (hL : SubL (Sub a h) lo' lo rl kl esl psl) (hR : SubR (Sub a h) hi' hi rr kr esr psr) (t : Ctx a H R us (h + 1) u.at_ lo hi esL esR psO) : Ctx a H R (u :: us) h at_ lo' hi' (esL ++ esl) (esr ++ esR) (u.at_ :: (psl ++ psr ++ psO))

theorem Ctx.frame {a a' : Abs} {H R : Nat} {us : List Pl} {h at_ : Nat} {lo hi : ByteArray} {esL esR : List ByteArray} {psO : List Nat} (k : Ctx a H R us h at_ lo hi esL esR psO) : (∀ p ∈ psO, a'.at (p : Int) = a.at (p : Int)) → Ctx a' H R us h at_ lo hi esL esR psO := by
  induction k with
  | root => intro _; exact .root
  | up hn hl hb er ek e1 e2 hh hL hR _ ih =>
    intro hp
    exact .up ⟨(hp _ (by simp)).trans hn.page, hn.shaped, hn.size, hn.small⟩ hl hb er ek e1 e2 hh (hL.mono fun c lo hi es q hq k => k.frame fun p hpq => hp p (by simp [hq p hpq])) (hR.mono fun c lo hi es q hq k => k.frame fun p hpq => hp p (by simp [hq p hpq])) (ih fun p hpp => hp p (by simp [hpp]))

theorem SubL.pages {a : Abs} {h : Nat} {lo' lo : ByteArray} {rs es : List ByteArray} {cs : List Int} {ps : List Nat} (k : SubL (Sub a h) lo' lo rs cs es ps) : ∀ p ∈ ps, ∃ c, a.at (p : Int) = some c := by
  induction k with
  | nil => intro p hp; cases hp
  | cons hP _ ih =>
    intro p hp
    rcases List.mem_append.1 hp with hp | hp
    · exact hP.pages p hp
    · exact ih p hp

theorem Subs.pages {a : Abs} {h : Nat} {hi lo : ByteArray} {rs es : List ByteArray} {cs : List Int} {ps : List Nat} (k : Subs (Sub a h) hi lo rs cs es ps) : ∀ p ∈ ps, ∃ c, a.at (p : Int) = some c := by
  induction k with
  | one hP => exact fun p hp => hP.pages p hp
  | more hP _ ih =>
    intro p hp
    rcases List.mem_append.1 hp with hp | hp
    · exact hP.pages p hp
    · exact ih p hp

theorem Ctx.pages {a : Abs} {H R : Nat} {us : List Pl} {h at_ : Nat} {lo hi : ByteArray} {esL esR : List ByteArray} {psO : List Nat} (k : Ctx a H R us h at_ lo hi esL esR psO) : ∀ p ∈ psO, ∃ c, a.at (p : Int) = some c := by
  induction k with
  | root => intro p hp; cases hp
  | up hn _ _ _ _ _ _ _ hL hR _ ih =>
    intro p hp
    rcases List.mem_cons.1 hp with rfl | hp
    · exact ⟨_, hn.page⟩
    · rcases List.mem_append.1 hp with hp | hp
      · rcases List.mem_append.1 hp with hp | hp
        · exact hL.pages p hp
        · rcases hR with ⟨_, _, _, rfl, _⟩ | ⟨_, _, t⟩
          · cases hp
          · exact t.pages p hp
      · exact ih p hp

/-- The way to a text, and what is around it. -/
theorem Sub.find {a : Abs} {H R : Nat} {k : ByteArray} : ∀ {h at_ : Nat} {lo hi : ByteArray} {es esL esR : List ByteArray} {ps psO : List Nat} {ups : List Pl}, Sub a h at_ lo hi es ps → Ctx a H R ups h at_ lo hi esL esR psO → inB lo hi k → (∀ e ∈ esL, ltP e k) → (∀ e ∈ esR, ltP k e) →
    ∃ (mid : List Pl) (y : Pl) (lo' hi' : ByteArray) (fL fR : List ByteArray) (qO : List Nat), Path a k h at_ (mid ++ [y]) ∧ Ctx a H R (mid.reverse ++ ups) 1 y.at_ lo' hi' fL fR qO ∧ Holds a y.at_ y.n ∧ y.n.leaf = true ∧ (∀ r ∈ y.n.recs, inB lo' hi' r) ∧ inB lo' hi' k ∧ esL ++ es ++ esR = fL ++ y.n.recs ++ fR ∧ (ps ++ psO).Perm (y.at_ :: qO) ∧ (∀ e ∈ fL, ltP e k) ∧ (∀ e ∈ fR, ltP k e) := by
  intro h
  induction h with
  | zero => intro _ _ _ _ _ _ _ _ _ k; exact k.elim
  | succ h ih =>
    intro at_ lo hi es esL esR ps psO ups k hC hk hL hR
    obtain ⟨n, ps', hn, rfl, hb, hc⟩ := k
    rcases hc with ⟨rfl, hl, rfl, rfl⟩ | ⟨h0, hl, hs⟩
    · exact ⟨[], ⟨at_, n, 0⟩, lo, hi, esL, esR, psO, .leaf hn hl, hC, hn, hl, hb, hk, rfl, by simp, hL, hR⟩
    · obtain ⟨r1, r2⟩ := shaped_recs hn.shaped
      obtain ⟨c, lo', hi', rl, rr, kl, kr, es1, es', es2, ps1, ps2, ps3, q1, q2, q3, q4, q5, q6, q7, q8, q9, q10, q11, q12⟩ := subs_find (fun c lo hi es ps k => Sub.bounds k) hs (fun r hr => ⟨by have := (r1 r hr).1; omega, hb r hr⟩) r2 hk
      have hC2 : Ctx a H R (⟨at_, n, n.recs.countP (leB k)⟩ :: ups) h c lo' hi' (esL ++ es1) (es2 ++ esR) (at_ :: (ps1 ++ ps3 ++ psO)) := .up (u := ⟨at_, n, n.recs.countP (leB k)⟩) hn hl hb q1 q2 q3 q4 h0 q5 q7 hC
      obtain ⟨mid, y, lo2, hi2, fL, fR, qO, p1, p2, p3, p4, p5, p6, p7, p8, p9, p10⟩ := ih q6 hC2 q10 (fun e he => by
        rcases List.mem_append.1 he with he | he
        · exact hL e he
        · exact q11 e he) (fun e he => by
        rcases List.mem_append.1 he with he | he
        · exact q12 e he
        · exact hR e he)
      refine ⟨⟨at_, n, n.recs.countP (leB k)⟩ :: mid, y, lo2, hi2, fL, fR, qO, .inner hn hl ?_ p1, ?_, p3, p4, p5, p6, ?_, ?_, p9, p10⟩
      · rw [q2, List.getElem?_append_right (by omega), q4]
        simp
      · rw [List.reverse_cons, List.append_assoc]; exact p2
      · rw [← p7, q8]; simp
      · refine List.Perm.trans ?_ p8
        subst q9
        rw [List.perm_iff_count]
        intro z
        simp only [List.count_append, List.count_cons]
        omega
end Go.Proofs.YtjocopclgehciaaGreatDoor
/-
  Tree: the way in a tree of any height.
-/
namespace Go.Proofs.YtjocopclgehciaaGreatDoor
open Go.RowKit
open L4 (Ar ArP Abs arV nv)

def Lay.pl (y : Lay) : Pl := ⟨y.at_, y.n, y.kid⟩

/-- A way in memory. -/
structure WayR (B : Nat) (v : Value) (Ld : List Lay) (w : World) : Prop where
  row : w.ownsRow B 118 5 v Ld.length (Ld.flatMap Lay.cells)
  rr : ∀ y ∈ Ld, w.ownsRow B 9 1 y.vr y.n.recs.length (L5.svs y.n.recs)
  rk : ∀ y ∈ Ld, w.ownsRow B 3 1 y.vk y.n.kids.length (L5.ivs y.n.kids)
  ap : Ld.Pairwise fun y z => (∀ q, y.vr.ownBlock = some q → z.vr.ownBlock ≠ some q) ∧ (∀ q, y.vk.ownBlock = some q → z.vk.ownBlock ≠ some q)

theorem WayR.on {B : Nat} {v : Value} {Ld : List Lay} {w w' : World} (k : WayR B v Ld w) (hb : Below w.heap.size w w') : WayR B v Ld w' :=
  ⟨L5.owns_of_block k.row fun q hq => hb.block q (k.row.lt q hq).2, fun y hy => L5.owns_below (k.rr y hy) hb, fun y hy => L5.owns_below (k.rk y hy) hb, k.ap⟩

/-- One step more: its node was loaded behind the others. -/
theorem WayR.more {B : Nat} {v v' : Value} {Ld : List Lay} {y0 : Lay} {w0 w w' : World} {m : Nat} (k0 : WayR B v Ld w0) (hb0 : Below w0.heap.size w0 w) (hB : B ≤ w0.heap.size) (hm : m = Ld.length + 1) (ho : w'.ownsRow B 118 5 v' m (Ld.flatMap Lay.cells ++ y0.cells)) (hg : w.grownBy w' v.ownBlock)
    (yr : w.ownsRow w0.heap.size 9 1 y0.vr y0.n.recs.length (L5.svs y0.n.recs)) (yk : w.ownsRow w0.heap.size 3 1 y0.vk y0.n.kids.length (L5.ivs y0.n.kids)) : WayR B v' (Ld ++ [y0]) w' := by
  subst hm
  have k := k0.on hb0
  have row : ∀ {e : TypeId} {b : Nat} {u : Value} {n : Nat} {xs : List Value}, w.ownsRow b e 1 u n xs → e ≠ 118 → w'.ownsRow b e 1 u n xs := fun hr he => L5.owns_of_block hr fun q hq => hg.block q (hr.lt q hq).2 (fun e => rows_ne hr k.row he q hq e.symm)
  refine ⟨by rw [List.length_append, List.flatMap_append]; simpa using ho, fun y hy => ?_, fun y hy => ?_, ?_⟩
  · rcases List.mem_append.1 hy with hy | hy
    · exact row (k.rr y hy) (by decide)
    · cases List.mem_singleton.1 hy
      exact owns_weak (row yr (by decide)) hB
  · rcases List.mem_append.1 hy with hy | hy
    · exact row (k.rk y hy) (by decide)
    · cases List.mem_singleton.1 hy
      exact owns_weak (row yk (by decide)) hB
  · rw [List.pairwise_append]
    refine ⟨k.ap, by simp, fun y hy z hz => ?_⟩
    cases List.mem_singleton.1 hz
    exact ⟨fun q hq e => by have := ((k0.rr y hy).lt q hq).2; have := (yr.lt q e).1; omega, fun q hq e => by have := ((k0.rk y hy).lt q hq).2; have := (yk.lt q e).1; omega⟩
end Go.Proofs.YtjocopclgehciaaGreatDoor
/-
  Tree: the way in a tree of any height, walked.
-/
namespace Go.Proofs.YtjocopclgehciaaGreatDoor
open Go.RowKit
open L4 (Ar ArP Abs arV nv)

set_option maxRecDepth 100000 in
set_option maxHeartbeats 1000000 in
theorem way_any {s : Ar} {w : World} {t r h l : Nat} {k : ByteArray} {full : List Pl} (hA : ArP s w) (ho : s.abs.Ok) (ht : TrC w t s.p r h l) (hp : Path s.abs k h r full) (hh : h ≤ 4096) :
    Calls Tryz.prog 74 #[.pointer (some ⟨t, 0, none⟩), .string k] w fun e w' => ∃ v Ld, e = .returned v ∧ Ld.map Lay.pl = full ∧ WayR w.heap.size v Ld w' ∧ Below w.heap.size w w' := by
  obtain ⟨c0, c1, c2, c3, ct, cf⟩ := ht.cells
  have HA := thid hA
  have HT := thid ht
  have HP := thid hp
  have HO := thid ho
  obtain ⟨hlen, hpos⟩ := hp.pos
  have HLN := thid hlen
  clear hA ht ho hp hlen
  have hsub : (h : Int) - 1 = ((h - 1 : Nat) : Int) := by omega
  go_enter Tryz.func74, Tryz.ntmps74
  go_wp2_with fail
  clear hsub
  go_loopw [5, 6, 20] (fun u5 u6 i wr => ∃ j : Nat, j ≤ h - 1 ∧ i = .int .i64 (j : Int) ∧ ∃ (at_ : Nat) (Ld : List Lay) (rest : List Pl), u6 = .int .i64 (at_ : Int) ∧ Hid (Ld.length = j ∧ Ld.map Lay.pl ++ rest = full ∧ Path s.abs k (h - j) at_ rest ∧ WayR w.heap.size u5 Ld wr ∧ Below w.heap.size w wr)) (fun _ _ i _ => h - (intOf i).toNat)
  case atStart => exact ⟨0, Nat.zero_le _, rfl, r, [], full, rfl, ⟨rfl, rfl, HP.out, ⟨⟨rfl, Or.inl ⟨rfl, rfl⟩⟩, by simp, by simp, by simp⟩, Below.refl _ _⟩⟩
  case round =>
    clear c0 c1 c2 c3
    obtain ⟨j, hj, rfl, at_, Ld, rest, rfl, HI⟩ := hrel
    by_cases hlt : j < h - 1
    · have hlt' : (j : Int) < ((h - 1 : Nat) : Int) := by omega
      obtain ⟨hl1, hl2, hl3, hl4, hl5⟩ := HI.out
      obtain ⟨m, hm⟩ : ∃ m, h - j = m + 1 + 1 := ⟨h - j - 2, by omega⟩
      rw [hm] at hl3
      cases hl3 with
      | @inner _ _ at' n rest' hn hlf hk hr =>
      have HLD := thid (load_ok (L4.arSt.below HA.out hl5) HO.out (HT.out.on hl5) hn.page hn.shaped hn.size)
      rw [hlf] at HLD
      go_wp2_with fail
      refine HLD.out.mono ?_
      rintro e w1 ⟨v, rfl, a, c, a', c', rfl, o1, o2, B1⟩
      have HR1 := thid o1
      have HK1 := thid o2
      have HB1 := thid B1
      have HW0 := thid hl4
      have HBW := thid hl5
      have HPL := thid hl2
      have HJL := thid hl1
      have HNX := thid hk
      have HRS := thid hr
      have HSM := thid hn.small
      clear HLD o1 o2 B1 hl1 hl2 hl4 hl5 hk hr hn HI
      unfold L5.nodeV
      rw [hlf]
      have hb2 := tbelow w1 (.cells #[.bool false, .slice a n.recs.length c, .slice a' n.kids.length c'] 94)
      have a2 := heap_alloc_new w1 (.cells #[.bool false, .slice a n.recs.length c, .slice a' n.kids.length c'] 94)
      have HKD := thid (L5.kid_walk (n := n) (L5.NR.mk (L5.owns_rd_slice (L5.owns_below HR1.out hb2)) (L5.owns_rd_slice (L5.owns_below HK1.out hb2))) HSM.out.recs k)
      unfold L5.nodeV at HKD
      rw [hlf] at HKD
      have HB2 := thid hb2
      clear hb2
      go_wp2_with fail
      refine HKD.out.mono ?_
      rintro e w3 ⟨rfl, B3⟩
      have a3 : w3.heap[w1.heap.size]? = some (.cells #[.bool false, .slice a n.recs.length c, .slice a' n.kids.length c'] 94 (0, 0)) := (B3.block _ (by simp)).trans a2
      have HB3 := thid (tbelow_on HB2.out B3)
      clear HKD B3 a2 HB2
      have y0 : w3.cell? ⟨w1.heap.size, 0, none⟩ = some (.bool false) := by rw [cell_of_row _ _ _ _ _ _ a3]; rfl
      have y1 : w3.cell? ⟨w1.heap.size, 1, none⟩ = some (.slice a n.recs.length c) := by rw [cell_of_row _ _ _ _ _ _ a3]; rfl
      have y2 : w3.cell? ⟨w1.heap.size, 2, none⟩ = some (.slice a' n.kids.length c') := by rw [cell_of_row _ _ _ _ _ _ a3]; rfl
      have yl := (Array.getElem?_eq_some_iff.1 a3).1
      obtain ⟨i0, hi0⟩ : ∃ i0, Hid (n.recs.countP (L5.leB k) = i0) := ⟨_, rfl⟩
      rw [hi0.out]
      have HB4 := thid (tbelow w3 (.cells #[.int .i64 (at_ : Int), .bool false, .slice a n.recs.length c, .slice a' n.kids.length c', .int .i64 (i0 : Int)] 118))
      go_wp2_with (first
        | (at_builtin
           revert HB4)
        | fail)
      intro HB4
      have hbw := tbelow_on (tbelow_on HB1.out HB3.out) HB4.out
      have hB0 := HBW.out.size
      have HW4 := thid (HW0.out.on hbw)
      have hjl := HJL.out
      refine append_step w.heap.size (Nat.le_trans hB0 hbw.size) rfl _ _ rfl u5 Ld.length (Ld.flatMap Lay.cells) [.int .i64 (at_ : Int), .bool false, .slice a n.recs.length c, .slice a' n.kids.length c', .int .i64 (i0 : Int)] rfl HW4.out.row (by omega) ⟨w3.heap.size, 0, none⟩ 1 rfl rfl (fun i u hi => by
          rw [Addr.add_lit, cell_of_row _ _ _ _ _ _ (heap_alloc_new _ _)]
          simpa using hi) (by simp; exact ⟨rfl, rfl, rfl, rfl, rfl⟩) ?_
      intro v5 w5 hown hg
      have yr := L5.owns_below (L5.owns_below HR1.out HB3.out) HB4.out
      have yk := L5.owns_below (L5.owns_below HK1.out HB3.out) HB4.out
      have HW5 := thid (HW0.out.more (y0 := ⟨at_, n, .slice a n.recs.length c, .slice a' n.kids.length c', i0⟩) hbw hB0 rfl (by unfold Lay.cells nv; rw [hlf]; exact hown) hg yr yk)
      have a4 := (HB4.out.block _ yl).trans a3
      have a5 : w5.heap[w1.heap.size]? = some (.cells #[.bool false, .slice a n.recs.length c, .slice a' n.kids.length c'] 94 (0, 0)) := (hg.block _ (Nat.lt_of_lt_of_le yl HB4.out.size) (fun e => row_ne a4 HW4.out.row (by decide) e.symm)).trans a4
      have z2 : w5.cell? ⟨w1.heap.size, 2, none⟩ = some (.slice a' n.kids.length c') := by rw [cell_of_row _ _ _ _ _ _ a5]; rfl
      have zl := (Array.getElem?_eq_some_iff.1 a5).1
      have hnx := HNX.out
      rw [hi0.out] at hnx
      have hkl : i0 < n.kids.length := (List.getElem?_eq_some_iff.1 hnx).1
      have yk5 := (L5.owns_rd_slice (HW5.out.rk ⟨at_, n, .slice a n.recs.length c, .slice a' n.kids.length c', i0⟩ (by simp))).2.2 i0 (.int .i64 (at' : Int)) (by simp [L5.ivs, hnx, L5.iv])
      obtain ⟨kb, ko, rfl, kbl, kbc⟩ := yk5
      have hB5 : Hid (Below w.heap.size w w5) := by
        refine ⟨hg.os.trans (hbw.os.trans HBW.out.os), hg.tape.trans (hbw.tape.trans HBW.out.tape), hg.output.trans (hbw.output.trans HBW.out.output), Nat.le_trans hB0 (Nat.le_trans hbw.size hg.size), fun q hq => ?_⟩
        rw [hg.block q (Nat.lt_of_lt_of_le hq (Nat.le_trans hB0 hbw.size)) (fun e => by have := (HW4.out.row.lt q e.symm).1; omega), hbw.block q (Nat.lt_of_lt_of_le hq hB0)]
        exact HBW.out.block q hq
      have hkl' : (i0 : Int) < (n.kids.length : Int) := by omega
      clear hown hg yr yk a4 a5 a3 hbw HW4 HW0 HR1 HK1 HB1 HB3 HB4 y0 y1 y2 yl HBW
      go_wp2
      refine ⟨⟨j + 1, by omega, by go_num, at', Ld ++ [⟨at_, n, .slice a n.recs.length c, .slice (some ⟨kb, ko, none⟩) n.kids.length c', i0⟩], rest', rfl, ⟨by simp [hjl], ?_, ?_, HW5.out, hB5.out⟩⟩, by simp [intOf]; omega⟩
      · rw [← HPL.out, List.map_append, List.append_assoc]
        simp [Lay.pl, hi0.out]
      · rw [show h - (j + 1) = m + 1 by omega]
        exact HRS.out
    · have hlt' : ((h - 1 : Nat) : Int) ≤ (j : Int) := by omega
      have hjh : j = h - 1 := by omega
      subst hjh
      obtain ⟨hl1, hl2, hl3, hl4, hl5⟩ := HI.out
      rw [show h - (h - 1) = 1 by omega] at hl3
      cases hl3 with
      | inner _ _ _ hr => exact absurd hr.pos.2 (by omega)
      | @leaf _ n hn hlf =>
      have HLD := thid (load_ok (L4.arSt.below HA.out hl5) HO.out (HT.out.on hl5) hn.page hn.shaped hn.size)
      rw [hlf] at HLD
      have HW0 := thid hl4
      have HBW := thid hl5
      have HPL := thid hl2
      have HJL := thid hl1
      clear hl1 hl2 hl4 hl5 HI hn
      go_wp2_with fail
      refine HLD.out.mono ?_
      rintro e w1 ⟨v, rfl, a, c, a', c', rfl, o1, o2, B1⟩
      have HO1 := thid o1
      have HO2 := thid o2
      have HB1 := thid B1
      unfold L5.nodeV
      clear HLD o1 o2 B1
      have HB2 := thid (tbelow w1 (.cells #[.int .i64 (at_ : Int), .bool true, .slice a n.recs.length c, .slice a' n.kids.length c', .int .i64 0] 118))
      rw [hlf]
      go_wp2_with (first
        | (at_builtin
           revert HB2)
        | fail)
      intro HB2
      have hbw := tbelow_on HB1.out HB2.out
      have hB0 := HBW.out.size
      have HW4 := thid (HW0.out.on hbw)
      have hjl := HJL.out
      refine append_step w.heap.size (Nat.le_trans hB0 hbw.size) rfl _ _ rfl u5 Ld.length (Ld.flatMap Lay.cells) [.int .i64 (at_ : Int), .bool true, .slice a n.recs.length c, .slice a' n.kids.length c', .int .i64 0] rfl HW4.out.row (by omega) ⟨w1.heap.size, 0, none⟩ 1 rfl rfl (fun i u hi => by
          rw [Addr.add_lit, cell_of_row _ _ _ _ _ _ (heap_alloc_new _ _)]
          simpa using hi) (by simp; exact ⟨rfl, rfl, rfl, rfl, rfl⟩) ?_
      intro v5 w5 hown hg
      have HW5 := thid (HW0.out.more (y0 := ⟨at_, n, .slice a n.recs.length c, .slice a' n.kids.length c', 0⟩) hbw hB0 rfl (by unfold Lay.cells nv; rw [hlf]; exact hown) hg (L5.owns_below HO1.out HB2.out) (L5.owns_below HO2.out HB2.out))
      have hB5 : Hid (Below w.heap.size w w5) := by
        refine ⟨hg.os.trans (hbw.os.trans HBW.out.os), hg.tape.trans (hbw.tape.trans HBW.out.tape), hg.output.trans (hbw.output.trans HBW.out.output), Nat.le_trans hB0 (Nat.le_trans hbw.size hg.size), fun q hq => ?_⟩
        rw [hg.block q (Nat.lt_of_lt_of_le hq (Nat.le_trans hB0 hbw.size)) (fun e => by have := (HW4.out.row.lt q e.symm).1; omega), hbw.block q (Nat.lt_of_lt_of_le hq hB0)]
        exact HBW.out.block q hq
      clear hown hg hbw HW4 HW0 HO1 HO2 HB1 HB2 HBW
      go_wp2
      go_ret
      refine ⟨v5, Ld ++ [⟨at_, n, .slice a n.recs.length c, .slice a' n.kids.length c', 0⟩], rfl, ?_, HW5.out, hB5.out⟩
      rw [← HPL.out, List.map_append]
      rfl
end Go.Proofs.YtjocopclgehciaaGreatDoor
/-
  Tree: calls that stop, at any height.
-/
namespace Go.Proofs.YtjocopclgehciaaGreatDoor
open Go.RowKit
open L4 (Ar ArP Abs arV nv)
open L1 (stopped)

set_option maxRecDepth 100000 in
set_option maxHeartbeats 1000000 in
theorem insert_there_any {N : Nat} {s : Ar} {t x r h l : Nat} {k : ByteArray} {pre : List Pl} {y : Pl} {w : World} (hE : Es N s t x r h l r h l (.slice none 0 0) (.slice none 0 0) (.slice none 0 0) [] [] [] w) (ho : s.abs.Ok) (hp : Path s.abs k h r (pre ++ [y])) (hh : h ≤ 4096) (hsm : y.n.small) (hno : L5.isAt y.n.recs k (y.n.recs.countP (L5.ltB k)) = true) :
    Calls Tryz.prog 53 #[.pointer (some ⟨x, 0, none⟩), .string k] w fun e w1 => e = .panicked (stopped 3 0) ∧ Below w.heap.size w w1 := by
  have HE := thid hE
  obtain ⟨d0, d1, d2, d3, d4, d5, d6, dl, df⟩ := hE.ed.cells
  have HWY := thid (way_any hE.ar ho hE.tr hp hh)
  have HLN := thid hp.pos
  clear hE hp
  go_enter Tryz.func53, Tryz.ntmps53
  go_wp2_with fail
  refine HWY.out.mono ?_
  rintro e w1 ⟨v, Ld, rfl, hmap, hW, B1⟩
  have hLd : Ld.length = pre.length + 1 := by have := congrArg List.length hmap; simpa using this
  have hlast : Ld[pre.length]?.map Lay.pl = some y := by rw [← List.getElem?_map, hmap]; simp
  obtain ⟨y0, hy0, hpl⟩ := Option.map_eq_some_iff.1 hlast
  obtain ⟨g, cap, hv, hg, g0, g1, g2, g3, g4⟩ := row5 hW.row (j := pre.length) (by omega)
  have hyy : Ld[pre.length] = y0 := by rw [List.getElem?_eq_getElem (by omega)] at hy0; exact Option.some.inj hy0
  rw [hyy] at g0 g1 g2 g3 g4
  have hmem : y0 ∈ Ld := List.mem_of_getElem? hy0
  have hny : y0.n = y.n := by rw [← hpl]; rfl
  have hrr := hW.rr y0 hmem
  have hrk := hW.rk y0 hmem
  rw [← hny] at hsm hno
  have HPO := thid HLN.out
  obtain ⟨cc, hcc⟩ : ∃ cc, v = .slice (some ⟨g, 0, none⟩) (pre.length + 1) cc := ⟨cap, by rw [hv, hLd]⟩
  subst hcc
  obtain ⟨a, c, er⟩ := own_slice hrr
  obtain ⟨a', c', ek⟩ := own_slice hrk
  rw [er] at g2 hrr
  rw [ek] at g3 hrk
  have HFN := thid (L5.find_walk (n := y0.n) (L5.NR.mk (L5.owns_rd_slice hrr) (L5.owns_rd_slice hrk)) hsm.recs k)
  rw [hno] at HFN
  unfold L5.nodeV at HFN
  have HB1 := thid B1
  have HE1 := thid (HE.out.below B1)
  have hml : pre.length + 1 ≤ 4096 := by have := HLN.out.1; simp at this; omega
  obtain ⟨m, hm⟩ : ∃ m, Hid (pre.length = m) := ⟨_, rfl⟩
  rw [hm.out] at g0 g1 g2 g3 g4 hml ⊢
  clear HWY d0 d1 d2 d3 d4 d5 d6 dl df hmap hW B1 hLd hlast hy0 hpl hyy hmem hny hv er ek hrr hrk HPO HLN hno
  obtain ⟨d0, d1, d2, d3, d4, d5, d6, dl, df⟩ := HE1.out.ed.cells
  unfold nv at g0 g4
  have hs1 : ((m : Int) + 1) - 1 = (m : Int) := by omega
  go_wp2_with fail
  refine HFN.out.mono ?_
  rintro e w2 ⟨rfl, B2⟩
  have HBB := thid (tbelow_on HB1.out B2)
  clear HFN HE1 HB1 HE B2 d0 d1 d2 d3 d4 d5 d6 dl df g0 g1 g2 g3 g4
  go_wp2_with fail
  refine (L1.check_no 3 (by decide) _).mono ?_
  rintro e w3 ⟨rfl, rfl⟩
  exact ⟨rfl, rfl, HBB.out⟩

set_option maxRecDepth 100000 in
set_option maxHeartbeats 1000000 in
theorem delete_absent_any {N : Nat} {s : Ar} {t x r h l : Nat} {k : ByteArray} {pre : List Pl} {y : Pl} {w : World} (hE : Es N s t x r h l r h l (.slice none 0 0) (.slice none 0 0) (.slice none 0 0) [] [] [] w) (ho : s.abs.Ok) (hp : Path s.abs k h r (pre ++ [y])) (hh : h ≤ 4096) (hsm : y.n.small) (hno : L5.isAt y.n.recs k (y.n.recs.countP (L5.ltB k)) = false) :
    Calls Tryz.prog 56 #[.pointer (some ⟨x, 0, none⟩), .string k] w fun e w1 => e = .panicked (stopped 2 0) ∧ Below w.heap.size w w1 := by
  have HE := thid hE
  obtain ⟨d0, d1, d2, d3, d4, d5, d6, dl, df⟩ := hE.ed.cells
  have HWY := thid (way_any hE.ar ho hE.tr hp hh)
  have HLN := thid hp.pos
  clear hE hp
  go_enter Tryz.func56, Tryz.ntmps56
  go_wp2_with fail
  refine HWY.out.mono ?_
  rintro e w1 ⟨v, Ld, rfl, hmap, hW, B1⟩
  have hLd : Ld.length = pre.length + 1 := by have := congrArg List.length hmap; simpa using this
  have hlast : Ld[pre.length]?.map Lay.pl = some y := by rw [← List.getElem?_map, hmap]; simp
  obtain ⟨y0, hy0, hpl⟩ := Option.map_eq_some_iff.1 hlast
  obtain ⟨g, cap, hv, hg, g0, g1, g2, g3, g4⟩ := row5 hW.row (j := pre.length) (by omega)
  have hyy : Ld[pre.length] = y0 := by rw [List.getElem?_eq_getElem (by omega)] at hy0; exact Option.some.inj hy0
  rw [hyy] at g0 g1 g2 g3 g4
  have hmem : y0 ∈ Ld := List.mem_of_getElem? hy0
  have hny : y0.n = y.n := by rw [← hpl]; rfl
  have hrr := hW.rr y0 hmem
  have hrk := hW.rk y0 hmem
  rw [← hny] at hsm hno
  have HPO := thid HLN.out
  obtain ⟨cc, hcc⟩ : ∃ cc, v = .slice (some ⟨g, 0, none⟩) (pre.length + 1) cc := ⟨cap, by rw [hv, hLd]⟩
  subst hcc
  obtain ⟨a, c, er⟩ := own_slice hrr
  obtain ⟨a', c', ek⟩ := own_slice hrk
  rw [er] at g2 hrr
  rw [ek] at g3 hrk
  have HFN := thid (L5.find_walk (n := y0.n) (L5.NR.mk (L5.owns_rd_slice hrr) (L5.owns_rd_slice hrk)) hsm.recs k)
  rw [hno] at HFN
  unfold L5.nodeV at HFN
  have HB1 := thid B1
  have HE1 := thid (HE.out.below B1)
  have hml : pre.length + 1 ≤ 4096 := by have := HLN.out.1; simp at this; omega
  obtain ⟨m, hm⟩ : ∃ m, Hid (pre.length = m) := ⟨_, rfl⟩
  rw [hm.out] at g0 g1 g2 g3 g4 hml ⊢
  clear HWY d0 d1 d2 d3 d4 d5 d6 dl df hmap hW B1 hLd hlast hy0 hpl hyy hmem hny hv er ek hrr hrk HPO HLN hno
  obtain ⟨d0, d1, d2, d3, d4, d5, d6, dl, df⟩ := HE1.out.ed.cells
  unfold nv at g0 g4
  have hs1 : ((m : Int) + 1) - 1 = (m : Int) := by omega
  go_wp2_with fail
  refine HFN.out.mono ?_
  rintro e w2 ⟨rfl, B2⟩
  have HBB := thid (tbelow_on HB1.out B2)
  clear HFN HE1 HB1 HE B2 d0 d1 d2 d3 d4 d5 d6 dl df g0 g1 g2 g3 g4
  go_wp2_with fail
  refine (L1.check_no 2 (by decide) _).mono ?_
  rintro e w3 ⟨rfl, rfl⟩
  exact ⟨rfl, rfl, HBB.out⟩

set_option maxRecDepth 100000 in
set_option maxHeartbeats 1000000 in
theorem insert_quota_any {N : Nat} {s : Ar} {t x r h l : Nat} {k : ByteArray} {pre : List Pl} {y : Pl} {w : World} (hE : Es N s t x r h l r h l (.slice none 0 0) (.slice none 0 0) (.slice none 0 0) [] [] [] w) (ho : s.abs.Ok) (hp : Path s.abs k h r (pre ++ [y])) (hh : h ≤ 4096) (hsm : y.n.small) (hno : L5.isAt y.n.recs k (y.n.recs.countP (L5.ltB k)) = false) (hl : s.abs.left < h + 1) :
    Calls Tryz.prog 53 #[.pointer (some ⟨x, 0, none⟩), .string k] w fun e w1 => e = .panicked (stopped 9 0) ∧ Below w.heap.size w w1 := by
  have HE := thid hE
  obtain ⟨d0, d1, d2, d3, d4, d5, d6, dl, df⟩ := hE.ed.cells
  have HWY := thid (way_any hE.ar ho hE.tr hp hh)
  have HLN := thid hp.pos
  clear hE hp
  go_enter Tryz.func53, Tryz.ntmps53
  go_wp2_with fail
  refine HWY.out.mono ?_
  rintro e w1 ⟨v, Ld, rfl, hmap, hW, B1⟩
  have hLd : Ld.length = pre.length + 1 := by have := congrArg List.length hmap; simpa using this
  have hlast : Ld[pre.length]?.map Lay.pl = some y := by rw [← List.getElem?_map, hmap]; simp
  obtain ⟨y0, hy0, hpl⟩ := Option.map_eq_some_iff.1 hlast
  obtain ⟨g, cap, hv, hg, g0, g1, g2, g3, g4⟩ := row5 hW.row (j := pre.length) (by omega)
  have hyy : Ld[pre.length] = y0 := by rw [List.getElem?_eq_getElem (by omega)] at hy0; exact Option.some.inj hy0
  rw [hyy] at g0 g1 g2 g3 g4
  have hmem : y0 ∈ Ld := List.mem_of_getElem? hy0
  have hny : y0.n = y.n := by rw [← hpl]; rfl
  have hrr := hW.rr y0 hmem
  have hrk := hW.rk y0 hmem
  rw [← hny] at hsm hno
  have HPO := thid HLN.out
  obtain ⟨cc, hcc⟩ : ∃ cc, v = .slice (some ⟨g, 0, none⟩) (pre.length + 1) cc := ⟨cap, by rw [hv, hLd]⟩
  subst hcc
  obtain ⟨a, c, er⟩ := own_slice hrr
  obtain ⟨a', c', ek⟩ := own_slice hrk
  rw [er] at g2 hrr
  rw [ek] at g3 hrk
  have HFN := thid (L5.find_walk (n := y0.n) (L5.NR.mk (L5.owns_rd_slice hrr) (L5.owns_rd_slice hrk)) hsm.recs k)
  rw [hno] at HFN
  unfold L5.nodeV at HFN
  have HB1 := thid B1
  have HE1 := thid (HE.out.below B1)
  have hml : pre.length + 1 ≤ 4096 := by have := HLN.out.1; simp at this; omega
  obtain ⟨m, hm⟩ : ∃ m, Hid (pre.length = m) := ⟨_, rfl⟩
  rw [hm.out] at g0 g1 g2 g3 g4 hml ⊢
  clear HWY d0 d1 d2 d3 d4 d5 d6 dl df hmap hW B1 hLd hlast hy0 hpl hyy hmem hny hv er ek hrr hrk HPO HLN hno
  obtain ⟨d0, d1, d2, d3, d4, d5, d6, dl, df⟩ := HE1.out.ed.cells
  unfold nv at g0 g4
  have hs1 : ((m : Int) + 1) - 1 = (m : Int) := by omega
  go_wp2_with fail
  refine HFN.out.mono ?_
  rintro e w2 ⟨rfl, B2⟩
  have HBB := thid (tbelow_on HB1.out B2)
  have HE2 := thid (HE1.out.below B2)
  clear HFN HE1 HB1 HE B2 d0 d1 d2 d3 d4 d5 d6 dl df g0 g1 g2 g3 g4
  have x0 : ∀ q : L4.BelowW w2, q.w.cell? ⟨x, 0, none⟩ = some (.pointer (some ⟨t, 0, none⟩)) := fun q => (HE2.out.below q.below).ed.cells.1
  have x2 : ∀ q : L4.BelowW w2, q.w.cell? ⟨x, 2, none⟩ = some (.int .i64 (h : Int)) := fun q => (HE2.out.below q.below).ed.cells.2.2.1
  have y0 : ∀ q : L4.BelowW w2, q.w.cell? ⟨t, 0, none⟩ = some (.pointer (some ⟨s.p, 0, none⟩)) := fun q => (HE2.out.below q.below).tr.cells.1
  have HL : ∀ q : L4.BelowW w2, Calls Tryz.prog 76 #[.pointer (some ⟨s.p, 0, none⟩)] q.w fun e w' => e = .returned (.int .i64 (s.abs.left : Int)) ∧ Below q.w.heap.size q.w w' := fun q => L4.left_walk (HE2.out.below q.below).ar ho
  have hl2 : decide ((s.abs.left : Int) < (h : Int) + 1) = true := by simp; omega
  go_wp2_with fail
  refine L4.wp_region_below (by kernel_rfl) (by kernel_rfl) (fun _ => ?_)
  repeat (go_big_quiet_step (first | (go_at_call 76; exact L4.quiet_of_below (HL _))))
  refine wpQuiet_nil ?_
  rintro _ ⟨q, rfl⟩
  have HBB := thid (tbelow_on HBB.out q.below)
  generalize q.w = w3 at *
  clear x0 x2 y0 HL HE2 q
  go_wp2_with fail
  refine (L1.check_no 9 (by decide) _).mono ?_
  rintro e w4 ⟨rfl, rfl⟩
  exact ⟨rfl, rfl, HBB.out⟩

end Go.Proofs.YtjocopclgehciaaGreatDoor
/-
  Tree: grow of a node that fits, at any height.
-/
namespace Go.Proofs.YtjocopclgehciaaGreatDoor
open Go.RowKit
open L4 (Ar ArP Abs arV nv)

/-- The last step of a way of m + 1 steps. -/
structure WayL (w : World) (m b cp : Nat) (at_ : Nat) (n : L5.No) (vr vk : Value) (kid : Nat) : Prop where
  lt : b < w.heap.size
  cap : m + 1 ≤ cp
  c0 : w.cell? ⟨b, m * 5, none⟩ = some (.int .i64 (at_ : Int))
  c1 : w.cell? ⟨b, m * 5 + 1, none⟩ = some (.bool n.leaf)
  c2 : w.cell? ⟨b, m * 5 + 2, none⟩ = some vr
  c3 : w.cell? ⟨b, m * 5 + 3, none⟩ = some vk
  c4 : w.cell? ⟨b, m * 5 + 4, none⟩ = some (.int .i64 (kid : Int))

theorem WayL.on {w w' : World} {m b cp at_ : Nat} {n : L5.No} {vr vk : Value} {kid : Nat} (k : WayL w m b cp at_ n vr vk kid) (hb : Below w.heap.size w w') : WayL w' m b cp at_ n vr vk kid :=
  ⟨Nat.lt_of_lt_of_le k.lt hb.size, k.cap, (hb.cell k.lt).trans k.c0, (hb.cell k.lt).trans k.c1, (hb.cell k.lt).trans k.c2, (hb.cell k.lt).trans k.c3, (hb.cell k.lt).trans k.c4⟩

set_option maxRecDepth 100000 in
set_option maxHeartbeats 1000000 in
theorem parted_any {w : World} {m b cp at_ kid : Nat} {n : L5.No} {ra ka : Option Addr} {rc kc : Nat} (hm : m ≤ 4096) (k : WayL w m b cp at_ n (.slice ra n.recs.length rc) (.slice ka n.kids.length kc) kid) :
    Calls Tryz.prog 102 #[.slice (some ⟨b, 0, none⟩) (m + 1) cp] w fun e w' => e = .returned (.tuple #[.slice (some ⟨b, 0, none⟩) m cp, .agg #[.int .i64 (at_ : Int), .bool n.leaf, .slice ra n.recs.length rc, .slice ka n.kids.length kc, .int .i64 (kid : Int)]]) ∧ Below w.heap.size w w' := by
  have HB1 := thid (tbelow w (.cells #[.int .i64 0, .bool false, .slice none 0 0, .slice none 0 0, .int .i64 0] 118))
  obtain ⟨hb, hcp, c0, c1, c2, c3, c4⟩ := k.on HB1.out
  have hz : (w.alloc (.cells #[.int .i64 0, .bool false, .slice none 0 0, .slice none 0 0, .int .i64 0] 118)).heap[w.heap.size]? = some (.cells #[.int .i64 0, .bool false, .slice none 0 0, .slice none 0 0, .int .i64 0] 118 (0, 0)) := heap_alloc_new _ _
  clear k
  have hs1 : ((m : Int) + 1) - 1 = (m : Int) := by omega
  go_enter Tryz.func102, Tryz.ntmps102
  go_wp2_with fail
  generalize w.alloc (.cells #[.int .i64 0, .bool false, .slice none 0 0, .slice none 0 0, .int .i64 0] 118) = W at *
  refine wp_region_quiet_tail (fun w' => ∃ n, w' = World.drewN W n) 8 (by kernel_rfl) (by kernel_rfl) ⟨1, rfl⟩ ?_
  simp only [List.take_succ_cons, List.take_zero, List.drop_succ_cons, List.drop_zero]
  repeat (go_big_quiet_step (fail))
  refine wpQuiet_nil ?_
  rintro _ ⟨nq, rfl⟩
  have HB2 := thid (HB1.out.trans ((below_drewN (Below.refl _ _) nq : Below W.heap.size W (World.drewN W nq)).mono HB1.out.size))
  have hz2 : (World.drewN W nq).heap[w.heap.size]? = some (.cells #[.int .i64 0, .bool false, .slice none 0 0, .slice none 0 0, .int .i64 0] 118 (0, 0)) := ((below_drewN (Below.refl _ _) nq : Below W.heap.size W (World.drewN W nq)).block _ (Array.getElem?_eq_some_iff.1 hz).1).trans hz
  clear c0 c1 c2 c3 c4 hb hz HB1
  generalize World.drewN W nq = V at *
  have z0 : V.cell? ⟨w.heap.size, 0, none⟩ = some (.int .i64 0) := by rw [cell_of_row _ _ _ _ _ _ hz2]; rfl
  have z1 : V.cell? ⟨w.heap.size, 1, none⟩ = some (.bool false) := by rw [cell_of_row _ _ _ _ _ _ hz2]; rfl
  have z2 : V.cell? ⟨w.heap.size, 2, none⟩ = some (.slice none 0 0) := by rw [cell_of_row _ _ _ _ _ _ hz2]; rfl
  have z3 : V.cell? ⟨w.heap.size, 3, none⟩ = some (.slice none 0 0) := by rw [cell_of_row _ _ _ _ _ _ hz2]; rfl
  have z4 : V.cell? ⟨w.heap.size, 4, none⟩ = some (.int .i64 0) := by rw [cell_of_row _ _ _ _ _ _ hz2]; rfl
  have zf : ∀ i, V.frozen? ⟨w.heap.size, i, none⟩ = false := fun i => frozen_of_row _ _ _ _ _ hz2
  go_wp2
  refine bodyPost_ret (v := .tuple #[.slice (some ⟨b, 0, none⟩) m cp, .agg #[.int .i64 (at_ : Int), .bool n.leaf, .slice ra n.recs.length rc, .slice ka n.kids.length kc, .int .i64 (kid : Int)]]) (by simp [results, Tryz.results102, go_sem, z0, z1, z2, z3, z4]) rfl ⟨rfl, ?_⟩
  exact ((((HB2.out.setCell (Nat.le_refl _) _).setCell (Nat.le_refl _) _).setCell (Nat.le_refl _) _).setCell (Nat.le_refl _) _).setCell (Nat.le_refl _) _

set_option maxRecDepth 100000 in
set_option maxHeartbeats 1000000 in
theorem grow_fit_any {B : Nat} {s : Ar} {t x r h l xr xh xl : Nat} {tk ld gn : Value} {T : List Nat} {Ld : List Lay} {G : List Nat} {w : World} (k : Es B s t x r h l xr xh xl tk ld gn T Ld G w) (hL : Ld.length ≤ 10000) {n : L5.No} {at_ m b cp kid : Nat} {ra ka : Option Addr} {rc kc : Nat} (hm : m ≤ 4096) (hw : WayL w m b cp at_ n (.slice ra n.recs.length rc) (.slice ka n.kids.length kc) kid)
    (yr : w.ownsRow B 9 1 (.slice ra n.recs.length rc) n.recs.length (L5.svs n.recs)) (yk : w.ownsRow B 3 1 (.slice ka n.kids.length kc) n.kids.length (L5.ivs n.kids)) (b1 : ∀ q, s.own q → (Value.slice ka n.kids.length kc).ownBlock ≠ some q) (b2 : ∀ q, tk.ownBlock = some q → (Value.slice ka n.kids.length kc).ownBlock ≠ some q) (b3 : ∀ q, gn.ownBlock = some q → (Value.slice ka n.kids.length kc).ownBlock ≠ some q) (hs : n.small) (hz : n.size ≤ 1024) :
    Calls Tryz.prog 78 #[.pointer (some ⟨x, 0, none⟩), .slice (some ⟨b, 0, none⟩) (m + 1) cp] w fun e w' => e = .returned (.tuple #[]) ∧ ∃ ld', Es B s t x r h l xr xh xl tk ld' gn T (Ld ++ [⟨at_, n, .slice ra n.recs.length rc, .slice ka n.kids.length kc, 0⟩]) G w' ∧ Stp B s s t x w w' := by
  have HK := thid k
  have HW := thid hw
  have HR := thid yr
  have HKK := thid yk
  clear k hw yr yk
  go_enter Tryz.func78, Tryz.ntmps78
  go_wp2_with fail
  refine (parted_any hm HW.out).mono ?_
  rintro e w1 ⟨rfl, hb1⟩
  have HB1 := thid hb1
  clear hb1
  have HA1 := thid (tbelow w1 (.cells #[.int .i64 (at_ : Int), .bool n.leaf, .slice ra n.recs.length rc, .slice ka n.kids.length kc, .int .i64 (kid : Int)] 118))
  have a1 : (w1.alloc (.cells #[.int .i64 (at_ : Int), .bool n.leaf, .slice ra n.recs.length rc, .slice ka n.kids.length kc, .int .i64 (kid : Int)] 118)).heap[w1.heap.size]? = some (.cells #[.int .i64 (at_ : Int), .bool n.leaf, .slice ra n.recs.length rc, .slice ka n.kids.length kc, .int .i64 (kid : Int)] 118 (0, 0)) := heap_alloc_new _ _
  have HB2 := thid (tbelow_on HB1.out HA1.out)
  go_wp2_with fail
  generalize w1.alloc (.cells #[.int .i64 (at_ : Int), .bool n.leaf, .slice ra n.recs.length rc, .slice ka n.kids.length kc, .int .i64 (kid : Int)] 118) = W1 at *
  refine (L5.size_walk (n := n) (L5.NR.mk (L5.owns_rd_slice (L5.owns_below HR.out HB2.out)) (L5.owns_rd_slice (L5.owns_below HKK.out HB2.out))) hs).mono ?_
  rintro e w2 ⟨rfl, hb2⟩
  have HB3 := thid (tbelow_on HB2.out hb2)
  have a2 : w2.heap[w1.heap.size]? = some (.cells #[.int .i64 (at_ : Int), .bool n.leaf, .slice ra n.recs.length rc, .slice ka n.kids.length kc, .int .i64 (kid : Int)] 118 (0, 0)) := (hb2.block _ (Array.getElem?_eq_some_iff.1 a1).1).trans a1
  clear hb2 a1 HA1 HB1 HB2
  have la : w1.heap.size < w2.heap.size := (Array.getElem?_eq_some_iff.1 a2).1
  have z0 : w2.cell? ⟨w1.heap.size, 0, none⟩ = some (.int .i64 (at_ : Int)) := by rw [cell_of_row _ _ _ _ _ _ a2]; rfl
  have z1 : w2.cell? ⟨w1.heap.size, 1, none⟩ = some (.bool n.leaf) := by rw [cell_of_row _ _ _ _ _ _ a2]; rfl
  have z2 : w2.cell? ⟨w1.heap.size, 2, none⟩ = some (.slice ra n.recs.length rc) := by rw [cell_of_row _ _ _ _ _ _ a2]; rfl
  have z3 : w2.cell? ⟨w1.heap.size, 3, none⟩ = some (.slice ka n.kids.length kc) := by rw [cell_of_row _ _ _ _ _ _ a2]; rfl
  have z4 : w2.cell? ⟨w1.heap.size, 4, none⟩ = some (.int .i64 (kid : Int)) := by rw [cell_of_row _ _ _ _ _ _ a2]; rfl
  have hzb : ((n.size : Int) ≤ 1024) := by omega
  have HK2 := thid (HK.out.below HB3.out)
  have HR2 := thid (L5.owns_below HR.out HB3.out)
  have HKK2 := thid (L5.owns_below HKK.out HB3.out)
  clear HK HR HKK HW a2
  go_wp2_with fail
  refine (put_ok HK2.out hL HR2.out HKK2.out b1 b2 b3).mono ?_
  rintro e w3 ⟨rfl, ld', hE, hS⟩
  have HF : Hid (∃ ld', Es B s t x r h l xr xh xl tk ld' gn T (Ld ++ [⟨at_, n, .slice ra n.recs.length rc, .slice ka n.kids.length kc, 0⟩]) G w3 ∧ Stp B s s t x w w3) := ⟨ld', hE, (Stp.below HB3.out).trans hS⟩
  clear hE hS HB3 HK2 HR2 HKK2 z0 z1 z2 z3 z4 la
  go_wp2
  refine bodyPost_ret (v := .tuple #[]) (by simp [results, Tryz.results78, go_sem]) rfl ⟨rfl, HF.out⟩
end Go.Proofs.YtjocopclgehciaaGreatDoor
/-
  Tree: insert into a leaf that has room, at any height.
-/
namespace Go.Proofs.YtjocopclgehciaaGreatDoor
open Go.RowKit
open L4 (Ar ArP Abs arV nv)

theorem wayL_blk {w : World} {m b cp r kid : Nat} {n : L5.No} {vr vk : Value} {cs : Array Value} (h : w.heap[b]? = some (.cells cs 118 (0, 0))) (hcp : m + 1 ≤ cp) (c0 : cs[m * 5]? = some (.int .i64 (r : Int))) (c1 : cs[m * 5 + 1]? = some (.bool n.leaf)) (c2 : cs[m * 5 + 2]? = some vr) (c3 : cs[m * 5 + 3]? = some vk) (c4 : cs[m * 5 + 4]? = some (.int .i64 (kid : Int))) : WayL w m b cp r n vr vk kid :=
  ⟨(Array.getElem?_eq_some_iff.1 h).1, hcp, (cell_of_row _ _ _ _ _ _ h).trans c0, (cell_of_row _ _ _ _ _ _ h).trans c1, (cell_of_row _ _ _ _ _ _ h).trans c2, (cell_of_row _ _ _ _ _ _ h).trans c3, (cell_of_row _ _ _ _ _ _ h).trans c4⟩

set_option maxRecDepth 100000 in
set_option maxHeartbeats 1000000 in
theorem insert_fit_any {N : Nat} {s : Ar} {t x r h l : Nat} {k : ByteArray} {pre : List Pl} {y : Pl} {w : World} (hE : Es N s t x r h l r h l (.slice none 0 0) (.slice none 0 0) (.slice none 0 0) [] [] [] w) (ho : s.abs.Ok) (hp : Path s.abs k h r (pre ++ [y])) (hh : h ≤ 4096) (hsm : y.n.small) (hno : L5.isAt y.n.recs k (y.n.recs.countP (L5.ltB k)) = false) (hat : ∃ c, s.abs.at (y.at_ : Int) = some c) (hl : h + 1 ≤ s.abs.left)
    (h2 : (withRec y.n (y.n.recs.countP (L5.ltB k)) k).small) (h3 : (withRec y.n (y.n.recs.countP (L5.ltB k)) k).shaped = true) (h4 : (withRec y.n (y.n.recs.countP (L5.ltB k)) k).size ≤ 1024) (hll : l ≤ 1000000) :
    Calls Tryz.prog 53 #[.pointer (some ⟨x, 0, none⟩), .string k] w fun e w1 => e = .returned (.tuple #[]) ∧ Done N s t x r h l r h (l + 1) (s.abs.lay y.at_ (some (L5.pageL (withRec y.n (y.n.recs.countP (L5.ltB k)) k).toNd))) w w1 := by
  have HE := thid hE
  obtain ⟨d0, d1, d2, d3, d4, d5, d6, dl, df⟩ := hE.ed.cells
  have HWY := thid (way_any hE.ar ho hE.tr hp hh)
  have HLN := thid hp.pos
  clear hE hp
  go_enter Tryz.func53, Tryz.ntmps53
  go_wp2_with fail
  refine HWY.out.mono ?_
  rintro e w1 ⟨v, Ld, rfl, hmap, hW, B1⟩
  have hLd : Ld.length = pre.length + 1 := by have := congrArg List.length hmap; simpa using this
  have hlast : Ld[pre.length]?.map Lay.pl = some y := by rw [← List.getElem?_map, hmap]; simp
  obtain ⟨y0, hy0, hpl⟩ := Option.map_eq_some_iff.1 hlast
  obtain ⟨g, cap, hv, hg, g0, g1, g2, g3, g4⟩ := row5 hW.row (j := pre.length) (by omega)
  have hyy : Ld[pre.length] = y0 := by rw [List.getElem?_eq_getElem (by omega)] at hy0; exact Option.some.inj hy0
  rw [hyy] at g0 g1 g2 g3 g4
  have hmem : y0 ∈ Ld := List.mem_of_getElem? hy0
  have hny : y0.n = y.n := by rw [← hpl]; rfl
  have hat_ : y0.at_ = y.at_ := by rw [← hpl]; rfl
  have hrr := hW.rr y0 hmem
  have hrk := hW.rk y0 hmem
  rw [← hny] at hsm hno h2 h3 h4
  rw [← hat_] at hat
  have HNY := thid hny
  have HATT := thid hat_
  have HPO := thid HLN.out
  obtain ⟨cc, hcc⟩ : ∃ cc, v = .slice (some ⟨g, 0, none⟩) (pre.length + 1) cc := ⟨cap, by rw [hv, hLd]⟩
  subst hcc
  obtain ⟨a, c, er⟩ := own_slice hrr
  obtain ⟨a', c', ek⟩ := own_slice hrk
  rw [er] at g2 hrr
  rw [ek] at g3 hrk
  have HFN := thid (L5.find_walk (n := y0.n) (L5.NR.mk (L5.owns_rd_slice hrr) (L5.owns_rd_slice hrk)) hsm.recs k)
  rw [hno] at HFN
  unfold L5.nodeV at HFN
  have HB1 := thid B1
  have HO1 := thid hrr
  have HO2 := thid hrk
  obtain ⟨cs, hbk⟩ := L4.owns_tag hW.row (k := g) (by rw [hv]; rfl)
  have hbb := (hW.row.lt g (by rw [hv]; rfl)).1
  have hcc : pre.length + 1 ≤ cc := by
    obtain ⟨_, _, e, _, hc⟩ := L4.owns_slice hW.row
    injection e with _ e1 e2
    omega
  have HE1 := thid (HE.out.below B1)
  have hml : pre.length + 1 ≤ 4096 := by have := HLN.out.1; simp at this; omega
  obtain ⟨m, hm⟩ : ∃ m, Hid (pre.length = m) := ⟨_, rfl⟩
  rw [hm.out] at g0 g1 g2 g3 g4 hml hcc ⊢
  clear HWY hat_ d0 d1 d2 d3 d4 d5 d6 dl df hmap hW B1 hLd hlast hy0 hpl hyy hmem hny hv er ek hrr hrk HPO HLN hno
  obtain ⟨d0, d1, d2, d3, d4, d5, d6, dl, df⟩ := HE1.out.ed.cells
  unfold nv at g0 g4
  have hs1 : ((m : Int) + 1) - 1 = (m : Int) := by omega
  go_wp2_with fail
  refine HFN.out.mono ?_
  rintro e w2 ⟨rfl, B2⟩
  have HB2 := thid B2
  have HE2 := thid (HE1.out.below B2)
  have HW2 : Hid (WayL w2 m g cc y0.at_ y0.n (.slice a y0.n.recs.length c) (.slice a' y0.n.kids.length c') y0.kid) := (⟨hg, hcc, g0, g1, g2, g3, g4⟩ : WayL w1 m g cc y0.at_ y0.n (.slice a y0.n.recs.length c) (.slice a' y0.n.kids.length c') y0.kid).on B2
  have HP1 := thid (L5.owns_below HO1.out B2)
  have HP2 := thid (L5.owns_below HO2.out B2)
  have hbk2 : w2.heap[g]? = some (.cells cs 118 (0, 0)) := (B2.block _ hg).trans hbk
  clear HFN HO1 HO2 HE1 B2 hbk d0 d1 d2 d3 d4 d5 d6 dl df g0 g1 g2 g3 g4
  have x0 : ∀ q : L4.BelowW w2, q.w.cell? ⟨x, 0, none⟩ = some (.pointer (some ⟨t, 0, none⟩)) := fun q => (HE2.out.below q.below).ed.cells.1
  have x2 : ∀ q : L4.BelowW w2, q.w.cell? ⟨x, 2, none⟩ = some (.int .i64 (h : Int)) := fun q => (HE2.out.below q.below).ed.cells.2.2.1
  have yq : ∀ q : L4.BelowW w2, q.w.cell? ⟨t, 0, none⟩ = some (.pointer (some ⟨s.p, 0, none⟩)) := fun q => (HE2.out.below q.below).tr.cells.1
  have HL : ∀ q : L4.BelowW w2, Calls Tryz.prog 76 #[.pointer (some ⟨s.p, 0, none⟩)] q.w fun e w' => e = .returned (.int .i64 (s.abs.left : Int)) ∧ Below q.w.heap.size q.w w' := fun q => L4.left_walk (HE2.out.below q.below).ar ho
  have hl2 : decide ((s.abs.left : Int) < (h : Int) + 1) = false := by simp; omega
  obtain ⟨i, hi⟩ : ∃ i, Hid (y0.n.recs.countP (L5.ltB k) = i) := ⟨_, rfl⟩
  rw [hi.out]
  go_wp2_with fail
  refine L4.wp_region_below (by kernel_rfl) (by kernel_rfl) (fun _ => ?_)
  repeat (go_big_quiet_step (first | (go_at_call 76; exact L4.quiet_of_below (HL _))))
  refine wpQuiet_nil ?_
  rintro _ ⟨q, rfl⟩
  have HE3 := thid (HE2.out.below q.below)
  have HW3 := thid (HW2.out.on q.below)
  have HQ1 := thid (L5.owns_below HP1.out q.below)
  have HQ2 := thid (L5.owns_below HP2.out q.below)
  have HB3 := thid (tbelow_on (tbelow_on HB1.out HB2.out) q.below)
  have hbk3 : q.w.heap[g]? = some (.cells cs 118 (0, 0)) := (q.below.block _ (Array.getElem?_eq_some_iff.1 hbk2).1).trans hbk2
  generalize q.w = w3 at *
  clear x0 x2 yq HL HE2 HW2 HP1 HP2 HB2 HB1 q hbk2
  obtain ⟨d0, d1, d2, d3, d4, d5, d6, dl, df⟩ := HE3.out.ed.cells
  obtain ⟨lb, hcp, q0, q1, q2, q3, q4⟩ := HW3.out
  have qf : ∀ i, w3.frozen? ⟨g, i, none⟩ = false := fun i => frozen_of_row _ _ _ _ _ hbk3
  have il : i ≤ y0.n.recs.length := by rw [← hi.out]; exact List.countP_le_length
  have hA3 := tbelow w3 (.cells #[.string k] 9)
  have hvb := heap_alloc_new w3 (.cells #[.string k] 9)
  have HIN := thid (insert_str (i := i) (x := .string k) (L5.owns_below HQ1.out hA3) il (by have := hsm.recs; omega) (Nat.le_trans HB3.out.size hA3.size) (by
      intro u hu
      obtain ⟨y, _, rfl⟩ := List.mem_map.1 hu
      rfl) rfl hvb (fun e => by have := (HQ1.out.lt _ e).2; omega))
  have HA3 := thid hA3
  clear hA3 hvb
  go_wp2_with fail
  refine HIN.out.mono ?_
  rintro e w5 ⟨v', rfl, o5, hgr5, _⟩
  have hnb := row_ne hbk3 HQ1.out (by decide)
  have hbk5 : w5.heap[g]? = some (.cells cs 118 (0, 0)) := (hgr5.block g (Nat.lt_of_lt_of_le lb HA3.out.size) (fun e => hnb e.symm)).trans ((HA3.out.block g lb).trans hbk3)
  have hB5 : Below w.heap.size w w5 := ⟨hgr5.os.trans (HA3.out.os.trans HB3.out.os), hgr5.tape.trans (HA3.out.tape.trans HB3.out.tape), hgr5.output.trans (HA3.out.output.trans HB3.out.output), Nat.le_trans HB3.out.size (Nat.le_trans HA3.out.size hgr5.size), fun q hq => by
    have z3 := HB3.out.size
    have z4 := HA3.out.size
    rw [hgr5.block q (by omega) (fun e => by have := (HQ1.out.lt q e.symm).1; omega), HA3.out.block q (by omega), HB3.out.block q hq]⟩
  have hbx : g ≠ x := tag_ne hbk3 HE3.out.ed (by decide)
  have hk5 : w5.ownsRow w.heap.size 3 1 (.slice a' y0.n.kids.length c') y0.n.kids.length (L5.ivs y0.n.kids) := L5.owns_of_block HQ2.out fun q hq => by
    have z := (HQ2.out.lt q hq).2
    rw [hgr5.block q (Nat.lt_of_lt_of_le z HA3.out.size) (fun e => rows_ne HQ2.out HQ1.out (by decide) q hq e.symm), HA3.out.block q z]
  have e0 : cs[m * 5]? = some (.int .i64 (y0.at_ : Int)) := (cell_of_row _ _ _ _ _ _ hbk3).symm.trans q0
  have e1 : cs[m * 5 + 1]? = some (.bool y0.n.leaf) := (cell_of_row _ _ _ _ _ _ hbk3).symm.trans q1
  have e2 : cs[m * 5 + 2]? = some (.slice a y0.n.recs.length c) := (cell_of_row _ _ _ _ _ _ hbk3).symm.trans q2
  have e3 : cs[m * 5 + 3]? = some (.slice a' y0.n.kids.length c') := (cell_of_row _ _ _ _ _ _ hbk3).symm.trans q3
  have e4 : cs[m * 5 + 4]? = some (.int .i64 (y0.kid : Int)) := (cell_of_row _ _ _ _ _ _ hbk3).symm.trans q4
  have HBE := thid HE.out.bs
  rw [← withRec_svs] at o5
  have hrl := withRec_len y0.n il k
  rw [← hrl] at o5
  obtain ⟨ra, rc, rfl⟩ := own_slice o5
  have HE5 := thid (HE.out.below hB5)
  have HB6 := thid (hB5.setCell (p := ⟨g, m * 5 + 2, none⟩) hbb (.slice ra (withRec y0.n i k).recs.length rc))
  have HE6 := thid (HE.out.below HB6.out)
  have hbk6 := heap_setCell_same w5 g (m * 5 + 2) cs _ (.slice ra (withRec y0.n i k).recs.length rc) hbk5
  have HO6 := thid (ownsRow_setCell_other o5 (a := ⟨g, m * 5 + 2, none⟩) (row_ne hbk5 o5 (by decide)) (.slice ra (withRec y0.n i k).recs.length rc))
  have HK6 := thid (ownsRow_setCell_other hk5 (a := ⟨g, m * 5 + 2, none⟩) (row_ne hbk5 hk5 (by decide)) (.slice ra (withRec y0.n i k).recs.length rc))
  have own_lt : ∀ q, s.own q → q < w.heap.size := fun q hq => L4.arSt.lt s w q HE.out.ar hq
  have HKL := thid (fun q (hq : (Value.slice a' y0.n.kids.length c').ownBlock = some q) => (hk5.lt q hq).1)
  have g2 : w5.cell? ⟨g, m * 5 + 2, none⟩ = some (.slice a y0.n.recs.length c) := (cell_of_row _ _ _ _ _ _ hbk5).trans e2
  have gf : ∀ i, w5.frozen? ⟨g, i, none⟩ = false := fun i => frozen_of_row _ _ _ _ _ hbk5
  have gl := (Array.getElem?_eq_some_iff.1 hbk5).1
  obtain ⟨m0, m1, m2, m3, m4, m5, m6, ml, mf⟩ := HE6.out.ed.cells
  clear HIN o5 hgr5 hB5 hk5 HE3 HW3 HQ1 HQ2 HB3 HA3 hbk3 hbk5 qf lb q0 q1 q2 q3 q4 d0 d1 d2 d3 d4 d5 d6 dl df HE5
  have HRL := thid hrl
  clear hrl
  go_wp2_with fail
  obtain ⟨hE7, hS7⟩ := HE6.out.lened (l + 1)
  have hbk7 := (show ((w5.setCell ⟨g, m * 5 + 2, none⟩ (.slice ra (withRec y0.n i k).recs.length rc)).setCell ⟨x, 3, none⟩ (.int .i64 ((l + 1 : Nat) : Int))).heap[g]? = (w5.setCell ⟨g, m * 5 + 2, none⟩ (.slice ra (withRec y0.n i k).recs.length rc)).heap[g]? from heap_setCell_other _ _ _ _ hbx).trans hbk6
  have hW7 : WayL ((w5.setCell ⟨g, m * 5 + 2, none⟩ (.slice ra (withRec y0.n i k).recs.length rc)).setCell ⟨x, 3, none⟩ (.int .i64 ((l + 1 : Nat) : Int))) m g cc y0.at_ (withRec y0.n i k) (.slice ra (withRec y0.n i k).recs.length rc) (.slice a' (withRec y0.n i k).kids.length c') y0.kid := by
    have c2 : m * 5 + 2 < cs.size := by
      rcases Nat.lt_or_ge (m * 5 + 2) cs.size with h | h
      · exact h
      · rw [Array.getElem?_eq_none h] at e2; cases e2
    refine wayL_blk hbk7 hcp ?_ ?_ ?_ ?_ ?_
    · rw [Array.getElem?_setIfInBounds_ne (by omega)]; exact e0
    · rw [Array.getElem?_setIfInBounds_ne (by omega)]; exact e1
    · rw [Array.getElem?_setIfInBounds_self_of_lt c2]
    · rw [Array.getElem?_setIfInBounds_ne (by omega)]; exact e3
    · rw [Array.getElem?_setIfInBounds_ne (by omega)]; exact e4
  have o7 := ownsRow_setCell_other HO6.out (a := ⟨x, 3, none⟩) (row_ne HE6.out.ed HO6.out (by decide)) (.int .i64 ((l + 1 : Nat) : Int))
  have k7 := ownsRow_setCell_other HK6.out (a := ⟨x, 3, none⟩) (row_ne HE6.out.ed HK6.out (by decide)) (.int .i64 ((l + 1 : Nat) : Int))
  rw [hi.out] at h2 h3 h4
  have HG := thid (grow_fit_any hE7 (by simp) (by omega) hW7 (owns_weak o7 HBE.out) (owns_weak k7 HBE.out) (fun q hq e => by have := own_lt q hq; have := HKL.out q e; omega) (fun q hq => by simp [Value.ownBlock] at hq) (fun q hq => by simp [Value.ownBlock] at hq) h2 h4)
  have HS7 := thid ((Stp.below (B := N) (s := s) (t := t) (x := x) (HB6.out)).trans hS7)
  rw [show (l : Int) + 1 = ((l + 1 : Nat) : Int) by omega]
  clear hE7 hS7 hW7 o7 k7 hbk6 hbk7 HE6 HO6 HK6 m0 m1 m2 m3 m4 m5 m6 ml mf g2 gf gl
  refine HG.out.mono ?_
  rintro e w8 ⟨rfl, ld', hE8, hS8⟩
  have HD : Hid (Done N s t x r h l r h (l + 1) (s.abs.lay y0.at_ (some (L5.pageL (withRec y0.n i k).toNd))) w w8) := by
    refine ⟨s, .slice none 0 0, ld', .slice none 0 0, [], _, rfl, ho, hE8, by simp, fun y hy => ?_, fun y hy => ?_, rfl, HS7.out.trans hS8⟩
    · rcases List.mem_append.1 hy with hy | hy
      · simp at hy
      · cases List.mem_singleton.1 hy
        exact ⟨h2, h3, h4⟩
    · rcases List.mem_append.1 hy with hy | hy
      · simp at hy
      · cases List.mem_singleton.1 hy
        exact hat
  clear HG HS7 hE8 hS8
  go_wp2
  go_end0
  exact ⟨rfl, by rw [← HNY.out, ← HATT.out, hi.out]; exact HD.out⟩
end Go.Proofs.YtjocopclgehciaaGreatDoor
/-
  Tree: pages that are laid and taken, plain; a node that is halved. Of no program's text.
-/
namespace Go.Proofs.YtjocopclgehciaaGreatDoor
open Go.RowKit
open L4 (Abs)
open L5 (ltP ltB leB)

def layN (a : Abs) (at_ : Nat) (n : L5.No) : Abs := a.lay at_ (some (L5.pageL n.toNd))

theorem at_nat (a : Abs) (n : Nat) : a.at (n : Int) = if 1 ≤ n then (a.pg[n - 1]?).join else none := by
  unfold Abs.at
  by_cases h : 1 ≤ n
  · rw [if_pos (by omega), if_pos h]; simp
  · rw [if_neg (by omega), if_neg h]

theorem at_lay_same {a : Abs} {n : Nat} {c : List UInt8} (h : a.at (n : Int) = some c) (d : List UInt8) : (a.lay n (some d)).at (n : Int) = some d := by
  obtain ⟨h1, h2, h3⟩ := L4.Abs.at_some h
  rw [at_nat, if_pos (by omega)]
  show ((a.pg.set (n - 1) (some d))[n - 1]?).join = _
  rw [List.getElem?_set_self (by simpa using h2)]
  rfl

theorem at_lay_ne {a : Abs} {n m : Nat} (h : m ≠ n) (hn : 1 ≤ n) (d : Option (List UInt8)) : (a.lay n d).at (m : Int) = a.at (m : Int) := by
  rw [at_nat, at_nat]
  split
  · show ((a.pg.set (n - 1) d)[m - 1]?).join = _
    rw [List.getElem?_set_ne (by omega)]
  · rfl

theorem at_pos {a : Abs} {n : Nat} {c : List UInt8} (h : a.at (n : Int) = some c) : 1 ≤ n := by
  have := (L4.Abs.at_some h).1
  omega

/-- The page that is next taken isn't in use; it is then, and the others are what they were. -/
theorem next_pos {a : Abs} (h : a.Ok) : 1 ≤ a.next ∧ a.at (a.next : Int) = none := by
  unfold L4.Abs.next
  cases hg : a.fr.getLast? with
  | none => exact ⟨by simp, by rw [at_nat]; simp⟩
  | some n =>
    obtain ⟨h1, h2⟩ := h.low n (List.mem_of_getLast? hg)
    refine ⟨h1, ?_⟩
    rw [at_nat, if_pos h1]
    show (a.pg[n - 1]?).join = none
    rw [h2]
    rfl

theorem at_alloc {a : Abs} (h : a.Ok) : (∃ c, a.alloc.at (a.next : Int) = some c) ∧ ∀ m : Nat, m ≠ a.next → a.alloc.at (m : Int) = a.at (m : Int) := by
  obtain ⟨n1, _⟩ := next_pos h
  have tk : a.take.pg = a.pg ∨ a.take.pg = a.pg ++ [none] := by
    unfold L4.Abs.take
    cases a.fr.getLast? with
    | none => exact Or.inr rfl
    | some n => exact Or.inl rfl
  have nl : a.next - 1 < a.take.pg.length := by
    unfold L4.Abs.next L4.Abs.take
    cases hg : a.fr.getLast? with
    | none => simp
    | some n =>
      obtain ⟨h1, h2⟩ := h.low n (List.mem_of_getLast? hg)
      exact (List.getElem?_eq_some_iff.1 h2).1
  refine ⟨⟨L4.zeroP, ?_⟩, fun m hm => ?_⟩
  · unfold L4.Abs.alloc
    rw [at_nat, if_pos n1]
    show ((a.take.pg.set (a.next - 1) (some L4.zeroP))[a.next - 1]?).join = _
    rw [List.getElem?_set_self nl]
    rfl
  · unfold L4.Abs.alloc
    rw [at_lay_ne hm n1, at_nat, at_nat]
    split
    · rcases tk with e | e
      · rw [e]
      · rw [e]
        by_cases hl : m - 1 < a.pg.length
        · rw [List.getElem?_append_left hl]
        · rw [List.getElem?_append_right (by omega), List.getElem?_eq_none (l := a.pg) (by omega)]
          by_cases hz : m - 1 - a.pg.length = 0
          · rw [hz]; rfl
          · rw [List.getElem?_eq_none (by simp; omega)]
    · rfl

theorem used_alloc {a : Abs} (h : a.Ok) : a.alloc.used = a.used + 1 ∧ a.alloc.q = a.q := by
  have hle := h.le
  unfold L4.Abs.alloc L4.Abs.take L4.Abs.used L4.Abs.lay
  cases hg : a.fr.getLast? with
  | none =>
    have hf : a.fr = [] := by simpa using hg
    simp [hf]
  | some n =>
    have : 1 ≤ a.fr.length := by
      have := List.mem_of_getLast? hg
      exact List.length_pos_of_mem this
    simp
    omega

theorem left_alloc {a : Abs} (h : a.Ok) : a.alloc.left = a.left - 1 := by
  obtain ⟨h1, h2⟩ := used_alloc h
  unfold L4.Abs.left
  rw [h1, h2]
  omega

/-- A right page, laid onto one in use. -/
theorem Holds.lay {a : Abs} {at_ : Nat} {c : List UInt8} {n : L5.No} (h : a.at (at_ : Int) = some c) (hs : n.shaped = true) (hz : n.size ≤ 1024) (hm : n.small) : Holds (layN a at_ n) at_ n := ⟨at_lay_same h _, hs, hz, hm⟩

theorem page_len {n : L5.No} (hz : n.size ≤ 1024) : (L5.pageL n.toNd).length = 1024 := L5.pageL_length (by rw [L5.toNd_size]; exact hz)

theorem layN_ok {a : Abs} {at_ : Nat} {c : List UInt8} {n : L5.No} (ho : a.Ok) (h : a.at (at_ : Int) = some c) (hz : n.size ≤ 1024) : (layN a at_ n).Ok := by
  have := ho.lay h (page_len hz)
  unfold layN
  simpa using this

theorem layN_used (a : Abs) (at_ : Nat) (n : L5.No) : (layN a at_ n).used = a.used ∧ (layN a at_ n).q = a.q ∧ (layN a at_ n).left = a.left := by
  have e : (layN a at_ n).used = a.used := by unfold layN L4.Abs.used L4.Abs.lay; simp
  exact ⟨e, rfl, by unfold L4.Abs.left; rw [e]; rfl⟩

theorem layN_next (a : Abs) (at_ : Nat) (n : L5.No) : (layN a at_ n).next = a.next := by
  unfold layN L4.Abs.next L4.Abs.lay
  simp

/-- To lay and to take are one after the other in whatever order. -/
theorem lay_alloc {a : Abs} (ho : a.Ok) {m : Nat} {c : List UInt8} (h : a.at (m : Int) = some c) (n : L5.No) : (layN a m n).alloc = layN a.alloc m n := by
  have hne : m ≠ a.next := fun e => by
    have := (next_pos ho).2
    rw [← e, h] at this
    cases this
  have h1 := (next_pos ho).1
  have h2 := at_pos h
  obtain ⟨_, hl, _⟩ := L4.Abs.at_some h
  have hl : m - 1 < a.pg.length := by simpa using hl
  unfold L4.Abs.alloc
  rw [layN_next]
  unfold layN L4.Abs.take L4.Abs.lay
  cases hg : a.fr.getLast? with
  | none =>
    simp only
    congr 1
    rw [List.set_comm _ _ (by omega)]
    congr 1
    rw [List.set_append_left _ _ hl]
  | some n =>
    simp only
    congr 1
    rw [List.set_comm _ _ (by omega)]

/-- One node more beside a Kid. -/
def addK (u : Pl) (sep : ByteArray) (n : Nat) : L5.No := ⟨u.n.leaf, u.n.recs.take u.kid ++ [sep] ++ u.n.recs.drop u.kid, u.n.kids.take (u.kid + 1) ++ [(n : Int)] ++ u.n.kids.drop (u.kid + 1)⟩

def sepOf (n : L5.No) : ByteArray := n.recs[n.cut]?.getD e0

/-- What grow makes of the pages, and the new root, if there is one. -/
def grows : List Pl → Abs → Nat → L5.No → Abs × Option Nat
  | [], a, at_, n => if n.size ≤ 1024 then (layN a at_ n, none) else
      (layN (layN (layN a.alloc at_ (n.lo n.cut)) a.next (n.hi n.cut)).alloc (layN (layN a.alloc at_ (n.lo n.cut)) a.next (n.hi n.cut)).next ⟨false, [sepOf n], [(at_ : Int), (a.next : Int)]⟩, some (layN (layN a.alloc at_ (n.lo n.cut)) a.next (n.hi n.cut)).next)
  | u :: us, a, at_, n => if n.size ≤ 1024 then (layN a at_ n, none) else grows us (layN (layN a.alloc at_ (n.lo n.cut)) a.next (n.hi n.cut)) u.at_ (addK u (sepOf n) a.next)


/-- The halves of an inner node that is too great by one entry fit. -/
theorem inner_fit {l : List ByteArray} (hw : L5.weigh l + 4 * l.length ≤ 1425) (hs : ∀ s ∈ l, s.size ≤ 400) (h2 : 3 ≤ l.length) : 7 + (L5.weigh (l.take (L5.cutN 8 1 l)) + 4 * L5.cutN 8 1 l) ≤ 1024 ∧ 7 + (L5.weigh (l.drop (L5.cutN 8 1 l + 1)) + 4 * (l.length - (L5.cutN 8 1 l + 1))) ≤ 1024 := by
  obtain ⟨k, k1, k2, k3, k4⟩ := L5.half_exists (L5.wts 8 l) 408 (fun x hx => by
    obtain ⟨s, h, rfl⟩ := List.mem_map.1 hx
    have := hs s h
    omega) (by rw [L5.wts_length]; omega)
  rw [L5.wts_length] at k2
  have ht : (L5.wts 8 l).sum = L5.weigh l + 4 * l.length := (L5.weigh_wts 4 l).symm
  have hp := L5.sum_parts (L5.wts 8 l) k
  obtain ⟨c1, c2⟩ := L5.cutN_le 8 1 l (by omega)
  have mono : ∀ i j, i ≤ j → L5.sumN 8 l i ≤ L5.sumN 8 l j := fun i j hij => by
    unfold L5.sumN
    obtain ⟨d, rfl⟩ : ∃ d, j = i + d := ⟨j - i, by omega⟩
    rw [List.take_add, List.sum_append]
    omega
  have hex : ∃ j, 1 ≤ j ∧ j ≤ l.length - 1 - 2 + 1 ∧ L5.heavy 8 1 l j ≤ 916 := by
    by_cases hk : k + 1 < l.length
    · refine ⟨k, k1, by omega, ?_⟩
      have := mono k (k + 1) (by omega)
      unfold L5.heavy
      unfold L5.sumN at this ⊢
      omega
    · refine ⟨l.length - 2, by omega, by omega, ?_⟩
      have e : k = l.length - 1 := by omega
      have m1 := mono (l.length - 2) k (by omega)
      unfold L5.heavy
      rw [show l.length - 2 + 1 = k by omega]
      unfold L5.sumN at m1 ⊢
      omega
  obtain ⟨j, j1, j2, j3⟩ := hex
  have hm : L5.heavy 8 1 l (L5.cutN 8 1 l) ≤ L5.heavy 8 1 l j := L5.minAt_min _ _ j j1 (by omega)
  have w1 := L5.weigh_take 4 l (L5.cutN 8 1 l) (by omega)
  have w2 := L5.weigh_drop 4 l (L5.cutN 8 1 l + 1)
  have hd : L5.heavy 8 1 l (L5.cutN 8 1 l) = max (L5.sumN 8 l (L5.cutN 8 1 l)) ((L5.wts 8 l).sum - L5.sumN 8 l (L5.cutN 8 1 l + 1)) := rfl
  rw [show 4 + 4 = 8 from rfl] at w1 w2
  omega

theorem small_of {n : L5.No} (hs : n.shaped = true) (hz : n.size ≤ 1432) : n.small := by
  obtain ⟨r1, _⟩ := shaped_recs hs
  have hw : 4 * n.recs.length ≤ L5.weigh n.recs := by
    unfold L5.weigh
    generalize n.recs = l
    induction l with
    | nil => simp
    | cons x l ih => simp; omega
  unfold L5.No.size at hz
  refine ⟨by omega, by omega, fun s hs => by have := (r1 s hs).2; omega⟩

theorem shaped_kids {n : L5.No} (hs : n.shaped = true) (hl : n.leaf = false) : (∀ k ∈ n.kids, 1 ≤ k ∧ k ≤ 4096) ∧ n.kids.length = n.recs.length + 1 := by
  rw [L5.shaped_eq] at hs
  have h := (Bool.and_eq_true_iff.1 hs).2
  unfold L5.numbB at h
  rw [hl] at h
  simp only [Bool.false_eq_true, if_false, Bool.and_eq_true, List.all_eq_true, beq_iff_eq] at h
  refine ⟨fun k hk => ?_, h.2⟩
  have := h.1 k hk
  unfold L5.kidOk at this
  simpa using this

theorem shaped_leaf {n : L5.No} (hs : n.shaped = true) (hl : n.leaf = true) : n.kids = [] := by
  rw [L5.shaped_eq] at hs
  have h := (Bool.and_eq_true_iff.1 hs).2
  unfold L5.numbB at h
  rw [hl] at h
  simpa using h

theorem shaped_mk {n : L5.No} (h1 : ∀ s ∈ n.recs, 1 ≤ s.size ∧ s.size ≤ 400) (h2 : n.recs.Pairwise ltP) (h3 : n.leaf = true ∧ n.kids = [] ∨ n.leaf = false ∧ n.kids.length = n.recs.length + 1 ∧ ∀ k ∈ n.kids, 1 ≤ k ∧ k ≤ 4096) : n.shaped = true := by
  rw [L5.shaped_eq, (L5.rises_iff _).2 ⟨h1, h2⟩]
  unfold L5.numbB
  rcases h3 with ⟨e1, e2⟩ | ⟨e1, e2, e3⟩
  · rw [e1, e2]; rfl
  · rw [e1]
    simp only [Bool.true_and, Bool.false_eq_true, if_false, Bool.and_eq_true, List.all_eq_true, beq_iff_eq]
    exact ⟨fun k hk => by unfold L5.kidOk; simpa using e3 k hk, e2⟩

/-- What is halved. -/
structure Cuts (n : L5.No) (sep : ByteArray) : Prop where
  at_ : n.recs[n.cut]? = some sep
  pos : 1 ≤ n.cut
  gap : n.cut + n.gap < n.recs.length
  lo : (n.lo n.cut).shaped = true ∧ (n.lo n.cut).size ≤ 1024 ∧ (n.lo n.cut).small
  hi : (n.hi n.cut).shaped = true ∧ (n.hi n.cut).size ≤ 1024 ∧ (n.hi n.cut).small
  len : n.gap + 2 ≤ n.recs.length

theorem weigh_lt (l : List ByteArray) (h : ∀ s ∈ l, s.size ≤ 400) : L5.weigh l ≤ 404 * l.length := by
  induction l with
  | nil => exact Nat.le_refl _
  | cons x l ih =>
    have h1 := ih fun s hs => h s (by simp [hs])
    have h2 := h x (by simp)
    unfold L5.weigh at h1 ⊢
    simp only [List.map_cons, List.sum_cons, List.length_cons]
    omega

theorem cuts_of {n : L5.No} (hs : n.shaped = true) (h1 : ¬ n.size ≤ 1024) (h2 : n.size ≤ 1024 + if n.leaf then 404 else 408) : Cuts n (sepOf n) := by
  obtain ⟨r1, r2⟩ := shaped_recs hs
  have hw := weigh_lt n.recs (fun s hs => (r1 s hs).2)
  cases hl : n.leaf
  · obtain ⟨k1, k2⟩ := shaped_kids hs hl
    have hg : n.gap = 1 := by unfold L5.No.gap; rw [hl]; rfl
    rw [hl] at h2
    simp only [Bool.false_eq_true, if_false] at h2
    unfold L5.No.size at h1 h2
    have h3 : 3 ≤ n.recs.length := by omega
    have hc : n.cut = L5.cutN 8 1 n.recs := L5.cut_inner hl
    obtain ⟨c1, c2⟩ := L5.cutN_le 8 1 n.recs (by omega)
    obtain ⟨f1, f2⟩ := inner_fit (l := n.recs) (by omega) (fun s hs => (r1 s hs).2) h3
    rw [← hc] at c1 c2 f1 f2
    have elo : n.lo n.cut = ⟨false, n.recs.take n.cut, n.kids.take (n.cut + 1)⟩ := by unfold L5.No.lo; rw [hl]; rfl
    have ehi : n.hi n.cut = ⟨false, n.recs.drop (n.cut + 1), n.kids.drop (n.cut + 1)⟩ := by unfold L5.No.hi; rw [hl, hg]; rfl
    have slo : (n.lo n.cut).shaped = true := by
      rw [elo]
      exact shaped_mk (fun s hs => r1 s (List.mem_of_mem_take hs)) (r2.sublist (List.take_sublist _ _)) (Or.inr ⟨rfl, by simp; omega, fun k hk => k1 k (List.mem_of_mem_take hk)⟩)
    have shi : (n.hi n.cut).shaped = true := by
      rw [ehi]
      exact shaped_mk (fun s hs => r1 s (List.mem_of_mem_drop hs)) (r2.sublist (List.drop_sublist _ _)) (Or.inr ⟨rfl, by simp; omega, fun k hk => k1 k (List.mem_of_mem_drop hk)⟩)
    have zlo : (n.lo n.cut).size ≤ 1024 := by
      rw [elo]; unfold L5.No.size; simp only [List.length_take]; omega
    have zhi : (n.hi n.cut).size ≤ 1024 := by
      rw [ehi]; unfold L5.No.size; simp only [List.length_drop]; omega
    exact ⟨by unfold sepOf; rw [List.getElem?_eq_getElem (by omega)]; rfl, c1, by omega, ⟨slo, zlo, small_of slo (by omega)⟩, ⟨shi, zhi, small_of shi (by omega)⟩, by omega⟩
  · have k1 := shaped_leaf hs hl
    have hg : n.gap = 0 := by unfold L5.No.gap; rw [hl]; rfl
    rw [hl] at h2
    simp only [if_true] at h2
    unfold L5.No.size at h1 h2
    rw [k1] at h1 h2
    simp only [List.length_nil] at h1 h2
    have h3 : 2 ≤ n.recs.length := by omega
    have hc : n.cut = L5.cutN 4 0 n.recs := L5.cut_leaf hl
    obtain ⟨c1, c2⟩ := L5.cutN_le 4 0 n.recs (by omega)
    obtain ⟨f1, f2⟩ := L5.halves_fit (l := n.recs) (by omega) (fun s hs => (r1 s hs).2) h3
    rw [← hc] at c1 c2 f1 f2
    have elo : n.lo n.cut = ⟨true, n.recs.take n.cut, []⟩ := by unfold L5.No.lo; rw [hl]; rfl
    have ehi : n.hi n.cut = ⟨true, n.recs.drop n.cut, []⟩ := by unfold L5.No.hi; rw [hl, hg]; rfl
    have slo : (n.lo n.cut).shaped = true := by
      rw [elo]
      exact shaped_mk (fun s hs => r1 s (List.mem_of_mem_take hs)) (r2.sublist (List.take_sublist _ _)) (Or.inl ⟨rfl, rfl⟩)
    have shi : (n.hi n.cut).shaped = true := by
      rw [ehi]
      exact shaped_mk (fun s hs => r1 s (List.mem_of_mem_drop hs)) (r2.sublist (List.drop_sublist _ _)) (Or.inl ⟨rfl, rfl⟩)
    have zlo : (n.lo n.cut).size ≤ 1024 := by
      rw [elo]; unfold L5.No.size; simp only [List.length_nil]; omega
    have zhi : (n.hi n.cut).size ≤ 1024 := by
      rw [ehi]; unfold L5.No.size; simp only [List.length_nil]; omega
    exact ⟨by unfold sepOf; rw [List.getElem?_eq_getElem (by omega)]; rfl, c1, by omega, ⟨slo, zlo, small_of slo (by omega)⟩, ⟨shi, zhi, small_of shi (by omega)⟩, by omega⟩

/-- What grow meets on its way is as it must be. -/
def GrowOk : List Pl → Abs → Nat → L5.No → Prop
  | [], a, at_, n => n.shaped = true ∧ n.small ∧ (n.size ≤ 1024 ∨ (Cuts n (sepOf n) ∧ (⟨false, [sepOf n], [(at_ : Int), (a.next : Int)]⟩ : L5.No).shaped = true ∧ (⟨false, [sepOf n], [(at_ : Int), (a.next : Int)]⟩ : L5.No).size ≤ 1024))
  | u :: us, a, at_, n => n.shaped = true ∧ n.small ∧ (n.size ≤ 1024 ∨ (Cuts n (sepOf n) ∧ u.kid ≤ u.n.recs.length ∧ u.kid + 1 ≤ u.n.kids.length ∧ u.n.small ∧ GrowOk us (layN (layN a.alloc at_ (n.lo n.cut)) a.next (n.hi n.cut)) u.at_ (addK u (sepOf n) a.next)))

theorem GrowOk.head {ups : List Pl} {a : Abs} {at_ : Nat} {n : L5.No} (h : GrowOk ups a at_ n) : n.shaped = true ∧ n.small := by
  cases ups with
  | nil => exact ⟨h.1, h.2.1⟩
  | cons u us => exact ⟨h.1, h.2.1⟩

/-- Kids are parted at an entry. -/
theorem subs_cut {P : Nat → ByteArray → ByteArray → List ByteArray → List Nat → Prop} {hi lo : ByteArray} {rs es : List ByteArray} {cs : List Int} {ps : List Nat} (h : Subs P hi lo rs cs es ps) : ∀ (k : Nat) (sep : ByteArray), rs[k]? = some sep → ∃ es1 es2 ps1 ps2, Subs P sep lo (rs.take k) (cs.take (k + 1)) es1 ps1 ∧ Subs P hi sep (rs.drop (k + 1)) (cs.drop (k + 1)) es2 ps2 ∧ es = es1 ++ es2 ∧ ps = ps1 ++ ps2 := by
  induction h with
  | one h => intro k sep hk; simp at hk
  | @more lo r c es1 es2 rs cs ps1 ps2 h t ih =>
    intro k sep hk
    cases k with
    | zero =>
      simp at hk
      subst hk
      exact ⟨es1, es2, ps1, ps2, .one h, t, rfl, rfl⟩
    | succ k =>
      obtain ⟨f1, f2, p1, p2, q1, q2, rfl, rfl⟩ := ih k sep (by simpa using hk)
      exact ⟨es1 ++ f1, f2, ps1 ++ p1, p2, .more h q1, q2, by simp, by simp⟩

/-- The halves' entries. -/
theorem body_cut {P : Nat → ByteArray → ByteArray → List ByteArray → List Nat → Prop} {h : Nat} {n : L5.No} {lo hi sep : ByteArray} {es : List ByteArray} {ps : List Nat} (hb : Body P h n lo hi es ps) (hc : Cuts n sep) (hs : n.shaped = true) : inB lo hi sep ∧ ltP lo sep ∧ ∃ es1 es2 ps1 ps2, Body P h (n.lo n.cut) lo sep es1 ps1 ∧ Body P h (n.hi n.cut) sep hi es2 ps2 ∧ es = es1 ++ es2 ∧ ps = ps1 ++ ps2 := by
  obtain ⟨r1, r2⟩ := shaped_recs hs
  have hat := hc.at_
  have hpos := hc.pos
  obtain ⟨hlt, hsep⟩ := List.getElem?_eq_some_iff.1 hat
  have hmem : sep ∈ n.recs := List.mem_of_getElem? hat
  have hin := hb.1 sep hmem
  have before : ∀ r ∈ n.recs.take n.cut, ltP r sep := fun r hr => by
    obtain ⟨i, hi, rfl⟩ := List.getElem_of_mem hr
    rw [List.length_take] at hi
    rw [List.getElem_take, ← hsep]
    exact List.pairwise_iff_getElem.1 r2 i n.cut (by omega) hlt (by omega)
  have behind : ∀ r ∈ n.recs.drop (n.cut + 1), ltP sep r := fun r hr => by
    obtain ⟨i, hi, rfl⟩ := List.getElem_of_mem hr
    rw [List.length_drop] at hi
    rw [List.getElem_drop, ← hsep]
    exact List.pairwise_iff_getElem.1 r2 n.cut (n.cut + 1 + i) hlt (by omega) (by omega)
  have b1 : ∀ r ∈ n.recs.take n.cut, inB lo sep r := fun r hr => ⟨(hb.1 r (List.mem_of_mem_take hr)).1, Or.inr (before r hr)⟩
  have b2 : ∀ r ∈ n.recs.drop n.cut, inB sep hi r := fun r hr => by
    refine ⟨?_, (hb.1 r (List.mem_of_mem_drop hr)).2⟩
    rw [List.drop_eq_getElem_cons hlt, hsep] at hr
    rcases List.mem_cons.1 hr with rfl | hr
    · exact le_rf _
    · exact le_of (behind r hr)
  have hlo : ltP lo sep := by
    have h0 : 0 < n.recs.length := by omega
    have := before n.recs[0] (by
      rw [List.mem_take_iff_getElem]
      exact ⟨0, by omega, rfl⟩)
    exact le_lt (hb.1 _ (List.getElem_mem h0)).1 this
  refine ⟨hin, hlo, ?_⟩
  rcases hb.2 with ⟨h0, hl, rfl, rfl⟩ | ⟨h0, hl, hsu⟩
  · have hg : n.gap = 0 := by unfold L5.No.gap; rw [hl]; rfl
    have elo : n.lo n.cut = ⟨true, n.recs.take n.cut, []⟩ := by unfold L5.No.lo; rw [hl]; rfl
    have ehi : n.hi n.cut = ⟨true, n.recs.drop n.cut, []⟩ := by unfold L5.No.hi; rw [hl, hg]; rfl
    rw [elo, ehi]
    exact ⟨n.recs.take n.cut, n.recs.drop n.cut, [], [], ⟨b1, Or.inl ⟨h0, rfl, rfl, rfl⟩⟩, ⟨b2, Or.inl ⟨h0, rfl, rfl, rfl⟩⟩, (List.take_append_drop _ _).symm, rfl⟩
  · have hg : n.gap = 1 := by unfold L5.No.gap; rw [hl]; rfl
    have elo : n.lo n.cut = ⟨false, n.recs.take n.cut, n.kids.take (n.cut + 1)⟩ := by unfold L5.No.lo; rw [hl]; rfl
    have ehi : n.hi n.cut = ⟨false, n.recs.drop (n.cut + 1), n.kids.drop (n.cut + 1)⟩ := by unfold L5.No.hi; rw [hl, hg]; rfl
    rw [elo, ehi]
    obtain ⟨f1, f2, p1, p2, q1, q2, e1, e2⟩ := subs_cut hsu n.cut sep hat
    exact ⟨f1, f2, p1, p2, ⟨b1, Or.inr ⟨h0, rfl, q1⟩⟩, ⟨fun r hr => b2 r (by rw [List.drop_eq_getElem_cons hlt]; exact List.mem_cons_of_mem _ hr), Or.inr ⟨h0, rfl, q2⟩⟩, e1, e2⟩
end Go.Proofs.YtjocopclgehciaaGreatDoor
