/-
  Index: what Each tells, plain: a value parts an index in three.
-/
import Derived.Test.YtjocopclgehciaaGreatDoorMBB
import Derived.Laws.AppendOwnNone
import Derived.Deep.Slices
import Derived.Deep.Strs
import Derived.Lib.SmallJoins
import Derived.ProofKit
import Derived.OpenShut
import Derived.Test.YtjocopclgehciaaGreatDoorMAC
namespace Go.Proofs.YtjocopclgehciaaGreatDoor
open Go.RowKit
open L3 (rightB)

/-- A pair's entry told, or nothing. -/
def dec (x : ByteArray) : List Pr := if enE x then [⟨(L3.readV x.data.toList).1, (L3.readV x.data.toList).2.1, L3.strB (L3.readV x.data.toList).2.2, enI x⟩] else []

theorem phi_dec (g : List Pr) (x : ByteArray) : phiP pfP g x = (g ++ dec x, true) := by
  unfold phiP dec
  split
  · rfl
  · simp

/-- Up to a bound. -/
def upto (tt : ByteArray) (l : List ByteArray) : List ByteArray := if tt.size = 0 then l else l.filter (L5.ltB tt)

theorem feed_dec {tt : ByteArray} (l : List ByteArray) : l.Pairwise L5.ltP → ∀ g : List Pr, (feed tt (phiP pfP) l g).1 = g ++ (upto tt l).flatMap dec := by
  induction l with
  | nil => intro _ g; unfold upto; split <;> simp [feed]
  | cons x l ih =>
    intro hp g
    have hp2 := (List.pairwise_cons.1 hp).2
    rw [feed]
    by_cases h : tt.size ≠ 0 ∧ ¬ L5.ltB tt x = true
    · rw [if_pos h]
      have : upto tt (x :: l) = [] := by
        unfold upto
        rw [if_neg h.1, List.filter_eq_nil_iff]
        intro y hy hlt
        rcases List.mem_cons.1 hy with rfl | hy
        · exact h.2 hlt
        · exact h.2 (lt_tr ((List.pairwise_cons.1 hp).1 y hy) hlt)
      rw [this]
      simp
    · rw [if_neg h, phi_dec, if_pos rfl, ih hp2]
      have : upto tt (x :: l) = x :: upto tt l := by
        unfold upto
        by_cases hz : tt.size = 0
        · rw [if_pos hz, if_pos hz]
        · rw [if_neg hz, if_neg hz, List.filter_cons, if_pos]
          exact Classical.byContradiction fun e => h ⟨hz, e⟩
      rw [this]
      simp

/-- A rising list, parted at a text. -/
theorem part_at {l : List ByteArray} (h : l.Pairwise L5.ltP) (t : ByteArray) : l = l.filter (L5.ltB t) ++ fromL t l := by
  rw [← drop_from h t]
  have : l.filter (L5.ltB t) = l.take (l.countP (L5.ltB t)) := by
    induction l with
    | nil => rfl
    | cons x l ih =>
      have h2 := (List.pairwise_cons.1 h).2
      rw [List.filter_cons, List.countP_cons]
      by_cases hx : L5.ltB t x = true
      · rw [if_pos hx, if_pos hx, ih h2]
        rfl
      · have hz : l.countP (L5.ltB t) = 0 := by
          rw [List.countP_eq_zero]
          intro y hy hlt
          exact hx (lt_tr ((List.pairwise_cons.1 h).1 y hy) hlt)
        rw [if_neg hx, if_neg hx, hz]
        rw [List.countP_eq_zero] at hz
        simp only [Nat.add_zero, List.take_zero]
        exact List.filter_eq_nil_iff.2 hz
  rw [this, List.take_append_drop]

theorem from_rising {l : List ByteArray} (h : l.Pairwise L5.ltP) (t : ByteArray) : (fromL t l).Pairwise L5.ltP := h.sublist List.filter_sublist

theorem from_from {l : List ByteArray} {a b : ByteArray} (h : L5.ltP a b) : fromL b (fromL a l) = fromL b l := by
  unfold fromL
  rw [List.filter_filter]
  refine List.filter_congr fun x _ => ?_
  cases hb : L5.ltB b x with
  | true => rfl
  | false =>
    cases ha : L5.ltB a x with
    | false => rfl
    | true => exact absurd (lt_tr (show L5.ltP x a from ha) h) (by unfold L5.ltP; rw [show Op.bytesLess x.toList b.toList = false from hb]; decide)

theorem next_gt {k n : Int} {s : ByteArray} (hr : rightB k n s = true) : L5.ltP (L3.keyS k n s) (L3.strB (L3.nextL (L3.keyS k n s).data.toList)) ∧ (L3.strB (L3.nextL (L3.keyS k n s).data.toList)).size ≠ 0 ∧ (L3.keyS k n s).size ≠ 0 := by
  have e : L3.keyS k n s = L3.strB (L3.keyL k n s) := by unfold L3.keyS; rw [if_pos hr]
  rw [e, L3.strB_list]
  have hne := L3.key_next k n s
  have hlt : L3.keyL k n s < L3.nextL (L3.keyL k n s) := ((L3.nextL_spec (L3.keyL k n s) (L3.keyL k n s)).1 (List.prefix_refl _)).2.resolve_left hne
  refine ⟨?_, ?_, ?_⟩
  · unfold L5.ltP
    rw [ByteArray.toList_eq, ByteArray.toList_eq]
    rw [L5.bytesLess_lt]
    exact decide_eq_true hlt
  · show (L3.nextL (L3.keyL k n s)).length ≠ 0
    intro h
    exact hne (List.length_eq_zero_iff.1 h)
  · show (L3.keyL k n s).length ≠ 0
    have := (key_len hr).1
    omega

theorem parts_told {k n : Int} {s : ByteArray} {es : List ByteArray} (h : es.Pairwise L5.ltP) : (noB.told ⟨true, false, k, n, s⟩ pfP es [] ++ (⟨true, true, k, n, s⟩ : Bd).told ⟨true, true, k, n, s⟩ pfP es [] ++ (⟨true, false, k, n, s⟩ : Bd).told noB pfP es [] = noB.told noB pfP es []) ∨ (noB.told ⟨true, false, k, n, s⟩ pfP es [] = [] ∧ (⟨true, true, k, n, s⟩ : Bd).told ⟨true, true, k, n, s⟩ pfP es [] = [] ∧ (⟨true, false, k, n, s⟩ : Bd).told noB pfP es [] = []) := by
  by_cases hr : rightB k n s = true
  · left
    have ek : L3.keyE k n s = 0 := by unfold L3.keyE; rw [if_pos hr]
    obtain ⟨g1, g2, g3⟩ := next_gt hr
    rw [told_no]
    unfold Bd.told
    have o1 : (⟨true, false, k, n, s⟩ : Bd).edgeE = 0 := ek
    have o2 : (⟨true, true, k, n, s⟩ : Bd).edgeE = 0 := ek
    have o3 : noB.edgeE = 0 := rfl
    rw [if_pos ⟨o3, o1⟩, if_pos ⟨o2, o2⟩, if_pos ⟨o1, o3⟩]
    show (feed (L3.keyS k n s) (phiP pfP) (fromL ⟨#[]⟩ es) []).1 ++ (feed (L3.strB (L3.nextL (L3.keyS k n s).data.toList)) (phiP pfP) (fromL (L3.keyS k n s) es) []).1 ++ (feed ⟨#[]⟩ (phiP pfP) (fromL (L3.strB (L3.nextL (L3.keyS k n s).data.toList)) es) []).1 = (feed ⟨#[]⟩ (phiP pfP) es []).1
    rw [from_all, feed_dec _ h, feed_dec _ (from_rising h _), feed_dec _ (from_rising h _), feed_dec _ h]
    generalize L3.strB (L3.nextL (L3.keyS k n s).data.toList) = N at *
    generalize L3.keyS k n s = K at *
    have u1 : upto K es = es.filter (L5.ltB K) := if_neg g3
    have u2 : upto N (fromL K es) = (fromL K es).filter (L5.ltB N) := if_neg g2
    have u3 : ∀ l, upto ⟨#[]⟩ l = l := fun l => if_pos rfl
    rw [u1, u2, u3, u3, List.nil_append, List.nil_append, List.nil_append, List.nil_append, ← List.flatMap_append, ← List.flatMap_append]
    congr 1
    have p1 := part_at h K
    have p2 := part_at (from_rising h K) N
    rw [from_from g1] at p2
    rw [List.append_assoc, ← p2, ← p1]
  · right
    have ek : L3.keyE k n s = 15 := by unfold L3.keyE; rw [if_neg hr]
    have o1 : (⟨true, false, k, n, s⟩ : Bd).edgeE = 15 := ek
    have o2 : (⟨true, true, k, n, s⟩ : Bd).edgeE = 15 := ek
    unfold Bd.told
    rw [o1, o2]
    refine ⟨if_neg (by decide), if_neg (by decide), if_neg (by decide)⟩

theorem feed_first {tt : ByteArray} (l : List ByteArray) : ∀ (g : List Pr) (c : Int × Bool), (feed tt (phiP pfP) l g).1.length ≠ g.length → (feed tt (phiP pfF) l c).1.2 = true := by
  induction l with
  | nil => intro g c h; exact absurd rfl h
  | cons x l ih =>
    intro g c h
    rw [feed] at h ⊢
    split at h
    · exact absurd rfl h
    · rename_i hs
      rw [if_neg hs]
      rw [phi_dec, if_pos rfl] at h
      by_cases he : enE x = true
      · have : phiP pfF c x = ((enI x, true), false) := by unfold phiP; rw [if_pos he]; rfl
        rw [this]
        rfl
      · have h1 : phiP pfF c x = (c, true) := by unfold phiP; rw [if_neg he]
        have h2 : dec x = [] := by unfold dec; rw [if_neg he]
        rw [h1, if_pos rfl]
        rw [h2, List.append_nil] at h
        exact ih g c h

theorem parts_first {k n : Int} {s : ByteArray} {es : List ByteArray} : (⟨true, true, k, n, s⟩ : Bd).told ⟨true, true, k, n, s⟩ pfP es [] ≠ [] → ((⟨true, true, k, n, s⟩ : Bd).told ⟨true, true, k, n, s⟩ pfF es (0, false)).2 = true := by
  unfold Bd.told
  split
  · intro h
    exact feed_first _ [] _ (by simpa using h)
  · intro h
    exact absurd rfl h

end Go.Proofs.YtjocopclgehciaaGreatDoor
/-
  Index: lists of pairs in memory: alike, one behind the other.
-/
namespace Go.Proofs.YtjocopclgehciaaGreatDoor
open Go.RowKit

theorem pcs_at (l : List Pr) : ∀ (j : Nat) (h : j < l.length), (pcs l)[j * 4]? = some (.int .i64 l[j].k) ∧ (pcs l)[j * 4 + 1]? = some (.int .i64 l[j].n) ∧ (pcs l)[j * 4 + 2]? = some (.string l[j].s) ∧ (pcs l)[j * 4 + 3]? = some (.int .i64 l[j].id) := by
  induction l with
  | nil => intro j h; simp at h
  | cons u l ih =>
    intro j h
    have e : pcs (u :: l) = .int .i64 u.k :: .int .i64 u.n :: .string u.s :: .int .i64 u.id :: pcs l := rfl
    cases j with
    | zero => rw [e]; exact ⟨rfl, rfl, rfl, rfl⟩
    | succ j =>
      have := ih j (by simpa using h)
      rw [e, show (j + 1) * 4 = j * 4 + 4 by omega]
      exact this

/-- Pairs that can be read. -/
def PrIn (W : World) (a : Option Addr) (l : List Pr) : Prop := ∀ j (h : j < l.length), ∃ g, a = some ⟨g, 0, none⟩ ∧ g < W.heap.size ∧ W.cell? ⟨g, j * 4, none⟩ = some (.int .i64 l[j].k) ∧ W.cell? ⟨g, j * 4 + 1, none⟩ = some (.int .i64 l[j].n) ∧ W.cell? ⟨g, j * 4 + 2, none⟩ = some (.string l[j].s) ∧ W.cell? ⟨g, j * 4 + 3, none⟩ = some (.int .i64 l[j].id)

theorem prIn {W : World} {B : Nat} {a : Option Addr} {c : Nat} {l : List Pr} (h : W.ownsRow B 49 4 (.slice a l.length c) l.length (pcs l)) : PrIn W a l := by
  intro j hj
  obtain ⟨g, e, hg, _, hc⟩ := owns4_at h (by omega)
  obtain ⟨p0, p1, p2, p3⟩ := pcs_at l j hj
  exact ⟨g, e, hg, hc _ _ p0, hc _ _ p1, hc _ _ p2, hc _ _ p3⟩

theorem PrIn.on {W W' : World} {a : Option Addr} {l : List Pr} (k : PrIn W a l) (hb : Below W.heap.size W W') : PrIn W' a l := by
  intro j h
  obtain ⟨g, e, h1, c0, c1, c2, c3⟩ := k j h
  exact ⟨g, e, Nat.lt_of_lt_of_le h1 hb.size, (hb.cell (p := ⟨g, j * 4, none⟩) h1).trans c0, (hb.cell (p := ⟨g, j * 4 + 1, none⟩) h1).trans c1, (hb.cell (p := ⟨g, j * 4 + 2, none⟩) h1).trans c2, (hb.cell (p := ⟨g, j * 4 + 3, none⟩) h1).trans c3⟩

set_option maxRecDepth 100000 in
set_option maxHeartbeats 1000000 in
theorem same_prs {l : List Pr} {a b : Option Addr} {c d : Nat} {w : World} (h1 : PrIn w a l) (h2 : PrIn w b l) (hl : l.length ≤ 100000) :
    Calls Tryz.prog 16 #[.slice a l.length c, .slice b l.length d] w fun e w' => e = .returned (.bool true) ∧ Below w.heap.size w w' := by
  have H1 := thid h1
  have H2 := thid h2
  clear h1 h2
  go_enter Tryz.func16, Tryz.ntmps16
  go_wp2_with fail
  go_loopw [5] (fun i wr => ∃ j : Nat, j ≤ l.length ∧ i = .int .i64 (j : Int) ∧ Hid (Below w.heap.size w wr)) (fun i _ => l.length - (intOf i).toNat)
  case atStart => exact ⟨0, Nat.zero_le _, rfl, Below.refl _ _⟩
  case round =>
    obtain ⟨j, hj, rfl, HB⟩ := hrel
    by_cases hlt : j < l.length
    · have hlt' : (j : Int) < (l.length : Int) := by omega
      obtain ⟨x1, rfl, l1, c10, c11, c12, c13⟩ := H1.out.on HB.out j hlt
      obtain ⟨x2, rfl, l2, c20, c21, c22, c23⟩ := H2.out.on HB.out j hlt
      generalize l[j] = y at *
      obtain ⟨yk, yn, ys, yi⟩ := y
      dsimp only at *
      go_wp2_with fail
      go_quiet (rfl)
      go_wp2
      exact ⟨⟨j + 1, by omega, by go_num, by first | exact HB | exact below_drewN HB.out _⟩, by simp [intOf]; omega⟩
    · have hlt' : (l.length : Int) ≤ (j : Int) := by omega
      go_wp2
      go_ret
      exact ⟨rfl, HB.out⟩

theorem appendM {ops : Array Oper} {rest : List Oper} {o : Oper} {a : Act} {Q : Exit → Act → World → Prop} {W1 : World} (hinfo : (Tryz.prog.info? 49).map (fun i => (i.zero, i.size, i.bytes)) = some (some (.agg #[.int .i64 0, .int .i64 0, .string ⟨#[]⟩, .int .i64 0]), 4, 40)) (hgd : o.guard = none) (base : Nat) (hbase : base ≤ W1.heap.size) (s x : Operand) (ho : o.op = .call { callee := .builtin .append, args := #[s, x], argTypes := #[33, 33] })
    (v : Value) (l m : List Pr) (hs : a.eval s = v) (h : W1.ownsRow base 49 4 v l.length (pcs l)) (hn : l.length + m.length ≤ 100000) (b : Option Addr) (cap B' : Nat) (hx : a.eval x = .slice b m.length cap) (hm : W1.ownsRow B' 49 4 (.slice b m.length cap) m.length (pcs m))
    (hK : ∀ v' W', W'.ownsRow base 49 4 v' (l ++ m).length (pcs (l ++ m)) → W1.grownBy W' v.ownBlock → (∀ k, v'.ownBlock = some k → v.ownBlock = some k ∨ W1.heap.size ≤ k) → wpList Tryz.prog ops Q rest (a.put o.dst v') W') : wpList Tryz.prog ops Q (o :: rest) a W1 := by
  obtain ⟨i, hi, hz⟩ := Option.map_eq_some_iff.1 hinfo
  simp only [Prod.mk.injEq] at hz
  obtain ⟨h3, h4, h5⟩ := hz
  have hm' := hm
  rcases hm.2 with ⟨e, h0⟩ | ⟨g, cap', cur, e, hg, hb, hc, _⟩
  · injection e with e1 e2 e3
    subst e1; subst e3
    have hm0 : m = [] := List.length_eq_zero_iff.1 e2
    subst hm0
    refine wpList_append_own_none hgd s x 33 ho base 49 i 4 Tryz.underlying33 hi v l.length (pcs l) hs h hx (hK v W1 (by rw [List.append_nil]; exact h) (grown_refl _ _) fun k hk => Or.inl hk)
  · injection e with e1 e2 e3
    subst e1; subst e3
    refine wpList_append_own_at (P := Tryz.prog) W1 hgd s x 33 ho base 49 i _ 4 40 Tryz.underlying33 hi h3 h4 h5 rfl (by decide) v l.length (pcs l) hs h ⟨g, 0, none⟩ m.length cap (pcs m) hx (pcs_length m) (fun j u hj => World.ownsRow.cells hm' (g := g) rfl j u hj) (fun u hu => ?_) (by unfold maxLen; omega) (by omega) hbase (fun v' W' hown hgr _ hat => ?_)
    · obtain ⟨p, _, hp⟩ := List.mem_flatMap.1 hu
      simp at hp
      rcases hp with rfl | rfl | rfl | rfl <;> rfl
    · refine hK v' W' (by rw [pcs_append, List.length_append]; exact hown) hgr fun k hk => ?_
      rcases hat with hat | hat
      · rw [hat] at hk; exact Or.inl hk
      · rw [hat] at hk; cases hk; exact Or.inr (Nat.le_refl _)

theorem appendN {ops : Array Oper} {rest : List Oper} {o : Oper} {a : Act} {Q : Exit → Act → World → Prop} {W1 : World} (hinfo : (Tryz.prog.info? 49).map (fun i => (i.zero, i.size, i.bytes)) = some (some (.agg #[.int .i64 0, .int .i64 0, .string ⟨#[]⟩, .int .i64 0]), 4, 40)) (hgd : o.guard = none) (base : Nat) (hbase : base ≤ W1.heap.size) (s x : Operand) (ho : o.op = .call { callee := .builtin .append, args := #[s, x], argTypes := #[33, 33] })
    (v : Value) (l m : List Pr) (nl nm : Nat) (el : l.length = nl) (em : m.length = nm) (hs : a.eval s = v) (h : W1.ownsRow base 49 4 v nl (pcs l)) (hn : nl + nm ≤ 100000) (b : Option Addr) (cap B' : Nat) (hx : a.eval x = .slice b nm cap) (hm : W1.ownsRow B' 49 4 (.slice b nm cap) nm (pcs m))
    (hK : ∀ v' W', W'.ownsRow base 49 4 v' (nl + nm) (pcs (l ++ m)) → W1.grownBy W' v.ownBlock → wpList Tryz.prog ops Q rest (a.put o.dst v') W') : wpList Tryz.prog ops Q (o :: rest) a W1 := by
  subst el; subst em
  exact appendM hinfo hgd base hbase s x ho v l m hs h hn b cap B' hx hm fun v' W' h1 h2 _ => hK v' W' (by rw [← List.length_append]; exact h1) h2

/-- What lies below stands where a row further on grows. -/
theorem owns_past {W W' : World} {B C : Nat} {v u : Value} {n m : Nat} {xs ys : List Value} (h : W.ownsRow B 49 4 v n xs) (hlt : ∀ q, v.ownBlock = some q → q < C) (hu : W.ownsRow C 49 4 u m ys) (hg : W.grownBy W' u.ownBlock) : W'.ownsRow B 49 4 v n xs :=
  L5.owns_of_block h fun q hq => hg.block q (h.lt q hq).2 fun e => by
    have h1 := hlt q hq
    have h2 := (hu.lt q e.symm).1
    omega

theorem told_len {lo hi : Bd} {es : List ByteArray} : (lo.told hi pfP es []).length ≤ es.length := by
  unfold Bd.told
  split
  · have h := feed_wg (wg := List.length) (tt := hi.edgeS hi.incl) (ph := phiP pfP) (fun c x => by
      unfold phiP pfP
      split <;> simp) (fromL (lo.edgeS (!lo.incl)) es) []
    have h2 : (fromL (lo.edgeS (!lo.incl)) es).length ≤ es.length := List.length_filter_le _ _
    simp at h
    omega
  · simp
end Go.Proofs.YtjocopclgehciaaGreatDoor
/-
  IndexParts: its walk.
-/
namespace Go.Proofs.YtjocopclgehciaaGreatDoor
open Go.RowKit
open L4 (Ar ArP Abs arV nv)
open L3 (valV fits rightB)

/-- A bound's cells, in memory. -/
def BdC (W : World) (p : Nat) (b : Bd) : Prop := W.heap[p]? = some (.cells #[.bool b.has, .bool b.incl, .int .i64 b.k, .int .i64 b.n, .string b.s] 39 (0, 0))

theorem BdC.on {W W' : World} {p : Nat} {b : Bd} (k : BdC W p b) (hb : Below W.heap.size W W') : BdC W' p b := (hb.block _ (Array.getElem?_eq_some_iff.1 k).1).trans k

theorem three_new (w : World) (A B C : Bd) : BdC (((w.alloc (.cells #[.bool A.has, .bool A.incl, .int .i64 A.k, .int .i64 A.n, .string A.s] 39)).alloc (.cells #[.bool B.has, .bool B.incl, .int .i64 B.k, .int .i64 B.n, .string B.s] 39)).alloc (.cells #[.bool C.has, .bool C.incl, .int .i64 C.k, .int .i64 C.n, .string C.s] 39)) w.heap.size A ∧ BdC (((w.alloc (.cells #[.bool A.has, .bool A.incl, .int .i64 A.k, .int .i64 A.n, .string A.s] 39)).alloc (.cells #[.bool B.has, .bool B.incl, .int .i64 B.k, .int .i64 B.n, .string B.s] 39)).alloc (.cells #[.bool C.has, .bool C.incl, .int .i64 C.k, .int .i64 C.n, .string C.s] 39)) (w.heap.size + 1) B ∧ BdC (((w.alloc (.cells #[.bool A.has, .bool A.incl, .int .i64 A.k, .int .i64 A.n, .string A.s] 39)).alloc (.cells #[.bool B.has, .bool B.incl, .int .i64 B.k, .int .i64 B.n, .string B.s] 39)).alloc (.cells #[.bool C.has, .bool C.incl, .int .i64 C.k, .int .i64 C.n, .string C.s] 39)) (w.heap.size + 1 + 1) C ∧ Below w.heap.size w (((w.alloc (.cells #[.bool A.has, .bool A.incl, .int .i64 A.k, .int .i64 A.n, .string A.s] 39)).alloc (.cells #[.bool B.has, .bool B.incl, .int .i64 B.k, .int .i64 B.n, .string B.s] 39)).alloc (.cells #[.bool C.has, .bool C.incl, .int .i64 C.k, .int .i64 C.n, .string C.s] 39)) := by
  have h1 : BdC (w.alloc (.cells #[.bool A.has, .bool A.incl, .int .i64 A.k, .int .i64 A.n, .string A.s] 39)) w.heap.size A := heap_alloc_new _ _
  have h2 := heap_alloc_new (w.alloc (.cells #[.bool A.has, .bool A.incl, .int .i64 A.k, .int .i64 A.n, .string A.s] 39)) (.cells #[.bool B.has, .bool B.incl, .int .i64 B.k, .int .i64 B.n, .string B.s] 39)
  rw [show (w.alloc (.cells #[.bool A.has, .bool A.incl, .int .i64 A.k, .int .i64 A.n, .string A.s] 39)).heap.size = w.heap.size + 1 by simp] at h2
  have h3 := heap_alloc_new ((w.alloc (.cells #[.bool A.has, .bool A.incl, .int .i64 A.k, .int .i64 A.n, .string A.s] 39)).alloc (.cells #[.bool B.has, .bool B.incl, .int .i64 B.k, .int .i64 B.n, .string B.s] 39)) (.cells #[.bool C.has, .bool C.incl, .int .i64 C.k, .int .i64 C.n, .string C.s] 39)
  rw [show ((w.alloc (.cells #[.bool A.has, .bool A.incl, .int .i64 A.k, .int .i64 A.n, .string A.s] 39)).alloc (.cells #[.bool B.has, .bool B.incl, .int .i64 B.k, .int .i64 B.n, .string B.s] 39)).heap.size = w.heap.size + 1 + 1 by simp] at h3
  have b2 := tbelow (w.alloc (.cells #[.bool A.has, .bool A.incl, .int .i64 A.k, .int .i64 A.n, .string A.s] 39)) (.cells #[.bool B.has, .bool B.incl, .int .i64 B.k, .int .i64 B.n, .string B.s] 39)
  have b3 := tbelow ((w.alloc (.cells #[.bool A.has, .bool A.incl, .int .i64 A.k, .int .i64 A.n, .string A.s] 39)).alloc (.cells #[.bool B.has, .bool B.incl, .int .i64 B.k, .int .i64 B.n, .string B.s] 39)) (.cells #[.bool C.has, .bool C.incl, .int .i64 C.k, .int .i64 C.n, .string C.s] 39)
  exact ⟨(h1.on b2).on b3, BdC.on (b := B) h2 b3, h3, tbelow_on (tbelow_on (tbelow w _) b2) b3⟩

theorem iadd_less {w0 : World} {q : Nat} {s0 : Ar} {x t r h : Nat} {es : List ByteArray} {ps : List Nat} {w : World} (kx : IX w0 q s0 x t r h es ps w) {k n : Int} {s : ByteArray} {id : Int} (hn : fits n = true) (hx : MxL w) (hid : id < 0) (hl : es.length ≤ 1000) :
    Calls Tryz.prog 10 #[.pointer (some ⟨x, 0, none⟩), valV k n s, .int .i64 id] w fun e w' => e = .returned (.int .i64 15) ∧ Below w.heap.size w w' := by
  refine (iadd_with (id := id) (fun W hb => entries_ok (kx.ix.on hb)) hn hx (R := fun _ _ _ => True) (fun W hb => (tinsert_tree (k := pk k n s id) (kx.tw.on hb) (by omega)).mono ?_)).mono ?_
  · rintro e w' ⟨c, s', r', h', es', ps', rfl, _⟩
    exact ⟨c, rfl, trivial⟩
  · rintro e w' ⟨c, rfl, ⟨_, rfl, hb⟩ | ⟨ho, _⟩⟩
    · exact ⟨rfl, hb⟩
    · have := (okP_iff.1 ho).2.1
      omega

set_option maxRecDepth 100000 in
set_option maxHeartbeats 2000000 in
theorem parts_walk {l : List OpX} {k n : Int} {s : ByteArray} {a : Option Addr} {c : Nat} {w : World} (h1 : OpsIn w a l) (hf : ∀ x ∈ l, x.fit) (hn : fits n = true) (hx : MxL w) :
    Calls Tryz.prog 4 #[.slice a l.length c, valV k n s] w fun e w' => e = .returned (.bool true) ∧ Below w.heap.size w w' := by
  have HO := thid h1
  have HF := thid hf
  have HNF := thid hn
  have HX := thid hx
  clear h1 hf hn hx
  unfold valV
  have HB0 := thid (tbelow w (.cells #[.int .i64 k, .int .i64 n, .string s] 37))
  have g0 := heap_alloc_new w (.cells #[.int .i64 k, .int .i64 n, .string s] 37)
  go_enter Tryz.func4, Tryz.ntmps4
  go_wp2_with fail
  generalize w.alloc (.cells #[.int .i64 k, .int .i64 n, .string s] 37) = w1 at *
  refine (xawake_walk (HX.out.on HB0.out)).mono ?_
  rintro e w2 ⟨rfl, b2⟩
  have HB2 := thid (tbelow_on HB0.out b2)
  have HG2 := thid ((b2.block _ (Array.getElem?_eq_some_iff.1 g0).1).trans g0)
  clear g0 b2 HB0
  go_wp2_with fail
  refine (great_walk (HO.out.on HB2.out)).mono ?_
  rintro e w3 ⟨⟨b, rfl, hb⟩, b3⟩
  have HB3 := thid (tbelow_on HB2.out b3)
  have HG3 := thid ((b3.block _ (Array.getElem?_eq_some_iff.1 HG2.out).1).trans HG2.out)
  clear b3 HB2 HG2
  cases b with
  | true =>
    go_wp2
    go_ret
    exact ⟨rfl, HB3.out⟩
  | false =>
    have hl : l.length ≤ 150 := hb rfl
    have f0 : w3.cell? ⟨w.heap.size, 0, none⟩ = some (.int .i64 k) := by rw [cell_of_row _ _ _ _ _ _ HG3.out]; rfl
    have f1 : w3.cell? ⟨w.heap.size, 1, none⟩ = some (.int .i64 n) := by rw [cell_of_row _ _ _ _ _ _ HG3.out]; rfl
    have f2 : w3.cell? ⟨w.heap.size, 2, none⟩ = some (.string s) := by rw [cell_of_row _ _ _ _ _ _ HG3.out]; rfl
    have fl := (Array.getElem?_eq_some_iff.1 HG3.out).1
    clear hb
    have HO1 : Hid (OpsIn (w3.alloc (.cells #[.int .i64 0, .int .i64 0, .int .i64 k, .int .i64 n, .string s, .bool false, .bool false, .int .i64 0, .int .i64 0, .string ⟨#[]⟩, .bool false, .bool false, .int .i64 0, .int .i64 0, .string ⟨#[]⟩] 41)) (some ⟨w3.heap.size, 0, none⟩) [⟨0, 0, k, n, s, ⟨false, false, 0, 0, ⟨#[]⟩⟩, ⟨false, false, 0, 0, ⟨#[]⟩⟩⟩]) := by
      intro j hj
      have hj0 : j = 0 := by simpa using hj
      subst hj0
      refine ⟨w3.heap.size, 0, rfl, by simp, fun i v hv => ?_⟩
      rw [cell_of_row _ _ _ _ _ _ (heap_alloc_new _ _)]
      rw [show 0 + 0 * 15 + i = i by omega, ← Array.getElem?_toList]
      exact hv
    have HB4 := thid (tbelow_on HB3.out (tbelow w3 (.cells #[.int .i64 0, .int .i64 0, .int .i64 k, .int .i64 n, .string s, .bool false, .bool false, .int .i64 0, .int .i64 0, .string ⟨#[]⟩, .bool false, .bool false, .int .i64 0, .int .i64 0, .string ⟨#[]⟩] 41)))
    have HG4 := thid (((tbelow w3 (.cells #[.int .i64 0, .int .i64 0, .int .i64 k, .int .i64 n, .string s, .bool false, .bool false, .int .i64 0, .int .i64 0, .string ⟨#[]⟩, .bool false, .bool false, .int .i64 0, .int .i64 0, .string ⟨#[]⟩] 41)).block _ (Array.getElem?_eq_some_iff.1 HG3.out).1).trans HG3.out)
    clear HB3 HG3
    go_wp2_with fail
    clear f0 f1 f2 fl
    refine (great_walk HO1.out).mono ?_
    rintro e w5 ⟨⟨b, rfl, _⟩, b5⟩
    have HB5 := thid (tbelow_on HB4.out b5)
    have HG5 := thid ((b5.block _ (Array.getElem?_eq_some_iff.1 HG4.out).1).trans HG4.out)
    clear b5 HB4 HG4 HO1
    cases b with
    | true =>
      go_wp2
      go_ret
      exact ⟨rfl, HB5.out⟩
    | false =>
      go_wp2_with fail
      refine (L4.new_ok 4000 (by decide) _).mono ?_
      rintro e w6 ⟨sa, rfl, hF⟩
      have HN := thid (inew_ok hF (by decide) (by decide))
      clear hF
      unfold arV at HN ⊢
      go_wp2_with fail
      refine HN.out.mono ?_
      rintro e w7 ⟨x, rfl, s7, t, r7, p7, k7⟩
      have HK7 := thid k7
      have HP7 := thid p7
      clear HN k7 p7
      go_wp2_with fail
      go_loopw [43] (fun i wr => ∃ j : Nat, j ≤ l.length ∧ i = .int .i64 (j : Int) ∧ ∃ (s8 : Ar) (r8 h8 : Nat) (es : List ByteArray) (ps : List Nat), Hid (s8.p = sa.p ∧ IX w5 4000 s8 x t r8 h8 es ps wr ∧ es.length ≤ j)) (fun i _ => l.length - (intOf i).toNat)
      case atStart => exact ⟨0, Nat.zero_le _, rfl, s7, r7, 1, [], [r7], HP7.out, HK7.out, by simp⟩
      case round =>
        clear HK7 HP7
        obtain ⟨j, hj, rfl, s8, r8, h8, es, ps, HI⟩ := hrel
        by_cases hlt : j < l.length
        · have hlt' : (j : Int) < (l.length : Int) := by omega
          obtain ⟨b, o, rfl, hb, c0, c1, c2, c3, c4, c5, c6, c7, c8, c9, c10, c11, c12, c13, c14⟩ := ((HO.out.on HB5.out).on HI.out.2.1.bel).at hlt
          have hft := HF.out _ (List.getElem_mem hlt)
          generalize l[j] = xo at *
          obtain ⟨K1, id1, k1, n1, s1, ⟨lh1, li1, lk1, ln1, ls1⟩, ⟨hh1, hi1, hk1, hn1, hs1⟩⟩ := xo
          dsimp only at *
          have HK8 := thid (HI.out.2.1.on (tbelow wr (.cells #[.int .i64 K1, .int .i64 id1, .int .i64 k1, .int .i64 n1, .string s1, .bool lh1, .bool li1, .int .i64 lk1, .int .i64 ln1, .string ls1, .bool hh1, .bool hi1, .int .i64 hk1, .int .i64 hn1, .string hs1] 41)))
          have HAD := thid (HK8.out.add (HX.out.on HB5.out) (k := k1) (b := s1) (id := id1) hft.1 (by have := HI.out.2.2; omega) (by have := HI.out.2.2; omega))
          unfold valV at HAD
          clear HK8 hft
          go_wp2_with fail
          clear c0 c1 c2 c3 c4 c5 c6 c7 c8 c9 c10 c11 c12 c13 c14
          refine HAD.out.mono ?_
          rintro e w9 ⟨rfl, s9, r9, h9, ps9, p9, k9⟩
          have HD : Hid (s9.p = sa.p ∧ IX w5 4000 s9 x t r9 h9 (addF es k1 n1 s1 id1) ps9 w9 ∧ (addF es k1 n1 s1 id1).length ≤ j + 1) := ⟨p9.trans HI.out.1, k9, by have := addF_len es k1 n1 s1 id1; have := HI.out.2.2; omega⟩
          clear k9 p9 HAD HI
          go_wp2
          exact ⟨⟨j + 1, by omega, by go_num, s9, r9, h9, _, ps9, HD⟩, by simp [intOf]; omega⟩
        · have hlt' : (l.length : Int) ≤ (j : Int) := by omega
          have hjl : j = l.length := by omega
          subst hjl
          have HG6 := thid ((HI.out.2.1.bel.block _ (Array.getElem?_eq_some_iff.1 HG5.out).1).trans HG5.out)
          have f0 : wr.cell? ⟨w.heap.size, 0, none⟩ = some (.int .i64 k) := by rw [cell_of_row _ _ _ _ _ _ HG6.out]; rfl
          have f1 : wr.cell? ⟨w.heap.size, 1, none⟩ = some (.int .i64 n) := by rw [cell_of_row _ _ _ _ _ _ HG6.out]; rfl
          have f2 : wr.cell? ⟨w.heap.size, 2, none⟩ = some (.string s) := by rw [cell_of_row _ _ _ _ _ _ HG6.out]; rfl
          have fl := (Array.getElem?_eq_some_iff.1 HG6.out).1
          go_upto_region 14 with fail
          go_cut [11, 12, 13] from 54 to 58 (fun s11 s12 s13 wx => ∃ p1 p2 p3, s11 = .pointer (some ⟨p1, 0, none⟩) ∧ s12 = .pointer (some ⟨p2, 0, none⟩) ∧ s13 = .pointer (some ⟨p3, 0, none⟩) ∧ Hid (BdC wx p1 ⟨true, true, k, n, s⟩ ∧ BdC wx p2 ⟨true, false, k, n, s⟩ ∧ BdC wx p3 noB ∧ Below wr.heap.size wr wx))
          case first =>
            have KS := thid (fun (W : World) (hb : Below wr.heap.size wr W) => (⟨(hb.cell (p := ⟨w.heap.size, 0, none⟩) fl).trans f0, (hb.cell (p := ⟨w.heap.size, 1, none⟩) fl).trans f1, (hb.cell (p := ⟨w.heap.size, 2, none⟩) fl).trans f2⟩ : W.cell? ⟨w.heap.size, 0, none⟩ = some (.int .i64 k) ∧ W.cell? ⟨w.heap.size, 1, none⟩ = some (.int .i64 n) ∧ W.cell? ⟨w.heap.size, 2, none⟩ = some (.string s)))
            go_region_held (fun w' => w'.cell? ⟨w.heap.size, 0, none⟩ = some (.int .i64 k) ∧ w'.cell? ⟨w.heap.size, 1, none⟩ = some (.int .i64 n) ∧ w'.cell? ⟨w.heap.size, 2, none⟩ = some (.string s)) (exact KS.out _ (by repeat (first | exact Below.refl _ _ | exact (Below.refl _ _).drew | refine Below.drew ?_ | refine Below.alloc ?_ (by simp; try omega) _ | refine Below.setCell ?_ (by simp; try omega) _))) (fail)
            all_goals
              go_wp2_with fail
              go_meet
              refine ⟨_, _, _, rfl, rfl, rfl, ?_⟩
              first
                | (have h := three_new wr ⟨true, true, k, n, s⟩ ⟨true, false, k, n, s⟩ noB; exact ⟨h.1, h.2.1, h.2.2.1, h.2.2.2.drew⟩)
                | (have h := three_new wr ⟨true, true, k, n, s⟩ noB ⟨true, false, k, n, s⟩; exact ⟨h.1, h.2.2.1, h.2.1, h.2.2.2.drew⟩)
                | (have h := three_new wr ⟨true, false, k, n, s⟩ ⟨true, true, k, n, s⟩ noB; exact ⟨h.2.1, h.1, h.2.2.1, h.2.2.2.drew⟩)
                | (have h := three_new wr ⟨true, false, k, n, s⟩ noB ⟨true, true, k, n, s⟩; exact ⟨h.2.2.1, h.1, h.2.1, h.2.2.2.drew⟩)
                | (have h := three_new wr noB ⟨true, true, k, n, s⟩ ⟨true, false, k, n, s⟩; exact ⟨h.2.1, h.2.2.1, h.1, h.2.2.2.drew⟩)
                | (have h := three_new wr noB ⟨true, false, k, n, s⟩ ⟨true, true, k, n, s⟩; exact ⟨h.2.2.1, h.2.1, h.1, h.2.2.2.drew⟩)
          case rest =>
            obtain ⟨p1, p2, p3, rfl, rfl, rfl, HC⟩ := hcut
            have HK := thid (HI.out.2.1.on HC.out.2.2.2)
            have hle := HI.out.2.2
            have HG7 := thid ((HC.out.2.2.2.block _ (Array.getElem?_eq_some_iff.1 HG6.out).1).trans HG6.out)
            clear HI HG6 f0 f1 f2 fl
            generalize wc = W at *
            have hps : es.length + ps.length ≤ 9000 := by have := HK.out.fat.few HK.out.tw.tp.sub; omega
            have KC : ∀ W' : World, Below W.heap.size W W' → (W'.cell? ⟨p1, 0, none⟩ = some (.bool true) ∧ W'.cell? ⟨p1, 1, none⟩ = some (.bool true) ∧ W'.cell? ⟨p1, 2, none⟩ = some (.int .i64 k) ∧ W'.cell? ⟨p1, 3, none⟩ = some (.int .i64 n) ∧ W'.cell? ⟨p1, 4, none⟩ = some (.string s)) ∧ (W'.cell? ⟨p2, 0, none⟩ = some (.bool true) ∧ W'.cell? ⟨p2, 1, none⟩ = some (.bool false) ∧ W'.cell? ⟨p2, 2, none⟩ = some (.int .i64 k) ∧ W'.cell? ⟨p2, 3, none⟩ = some (.int .i64 n) ∧ W'.cell? ⟨p2, 4, none⟩ = some (.string s)) ∧ (W'.cell? ⟨p3, 0, none⟩ = some (.bool false) ∧ W'.cell? ⟨p3, 1, none⟩ = some (.bool false) ∧ W'.cell? ⟨p3, 2, none⟩ = some (.int .i64 0) ∧ W'.cell? ⟨p3, 3, none⟩ = some (.int .i64 0) ∧ W'.cell? ⟨p3, 4, none⟩ = some (.string ⟨#[]⟩)) := fun W' hb => by
              have h1 := HC.out.1.on hb
              have h2 := HC.out.2.1.on hb
              have h3 := HC.out.2.2.1.on hb
              refine ⟨⟨?_, ?_, ?_, ?_, ?_⟩, ⟨?_, ?_, ?_, ?_, ?_⟩, ⟨?_, ?_, ?_, ?_, ?_⟩⟩
              · rw [cell_of_row _ _ _ _ _ _ h1]; rfl
              · rw [cell_of_row _ _ _ _ _ _ h1]; rfl
              · rw [cell_of_row _ _ _ _ _ _ h1]; rfl
              · rw [cell_of_row _ _ _ _ _ _ h1]; rfl
              · rw [cell_of_row _ _ _ _ _ _ h1]; rfl
              · rw [cell_of_row _ _ _ _ _ _ h2]; rfl
              · rw [cell_of_row _ _ _ _ _ _ h2]; rfl
              · rw [cell_of_row _ _ _ _ _ _ h2]; rfl
              · rw [cell_of_row _ _ _ _ _ _ h2]; rfl
              · rw [cell_of_row _ _ _ _ _ _ h2]; rfl
              · rw [cell_of_row _ _ _ _ _ _ h3]; rfl
              · rw [cell_of_row _ _ _ _ _ _ h3]; rfl
              · rw [cell_of_row _ _ _ _ _ _ h3]; rfl
              · rw [cell_of_row _ _ _ _ _ _ h3]; rfl
              · rw [cell_of_row _ _ _ _ _ _ h3]; rfl
            have KS := thid KC
            obtain ⟨⟨i0, i1, i2, i3, i4⟩, ⟨j0, j1, j2, j3, j4⟩, ⟨m0, m1, m2, m3, m4⟩⟩ := KC W (Below.refl _ _)
            have il := (Array.getElem?_eq_some_iff.1 HC.out.1).1
            have jl := (Array.getElem?_eq_some_iff.1 HC.out.2.1).1
            have ml := (Array.getElem?_eq_some_iff.1 HC.out.2.2.1).1
            clear KC
            have HMX := thid ((HX.out.on HB5.out).on HK.out.bel)
            have hn0 : fits (0 : Int) = true := by decide
            have HP1 := thid (fun W' (hb : Below W.heap.size W W') => pairs_ok (eachC_ok (lo := noB) (hi := noB) (HK.out.on hb).ix (HK.out.on hb).tw (HMX.out.on hb) hn0 hn0 hps))
            have HP2 := thid (fun W' (hb : Below W.heap.size W W') => pairs_ok (eachC_ok (lo := noB) (hi := ⟨true, false, k, n, s⟩) (HK.out.on hb).ix (HK.out.on hb).tw (HMX.out.on hb) hn0 HNF.out hps))
            have HP3 := thid (fun W' (hb : Below W.heap.size W W') => pairs_ok (eachC_ok (lo := ⟨true, true, k, n, s⟩) (hi := ⟨true, true, k, n, s⟩) (HK.out.on hb).ix (HK.out.on hb).tw (HMX.out.on hb) HNF.out HNF.out hps))
            have HP4 := thid (fun W' (hb : Below W.heap.size W W') => pairs_ok (eachC_ok (lo := ⟨true, false, k, n, s⟩) (hi := noB) (HK.out.on hb).ix (HK.out.on hb).tw (HMX.out.on hb) HNF.out hn0 hps))
            have HPT := thid (parts_told (k := k) (n := n) (s := s) HK.out.tw.tp.sub.rising.2)
            have HLN := thid (And.intro (told_len (lo := noB) (hi := noB) (es := es)) (And.intro (told_len (lo := noB) (hi := ⟨true, false, k, n, s⟩) (es := es)) (And.intro (told_len (lo := ⟨true, true, k, n, s⟩) (hi := ⟨true, true, k, n, s⟩) (es := es)) (told_len (lo := ⟨true, false, k, n, s⟩) (hi := noB) (es := es)))))
            have HPE := thid (parts_first (k := k) (n := n) (s := s) (es := es))
            obtain ⟨T1, T2, T3, T4, HTE⟩ : ∃ T1 T2 T3 T4, Hid (noB.told noB pfP es [] = T1 ∧ noB.told ⟨true, false, k, n, s⟩ pfP es [] = T2 ∧ (⟨true, true, k, n, s⟩ : Bd).told ⟨true, true, k, n, s⟩ pfP es [] = T3 ∧ (⟨true, false, k, n, s⟩ : Bd).told noB pfP es [] = T4) := ⟨_, _, _, _, rfl, rfl, rfl, rfl⟩
            rw [HTE.out.1, HTE.out.2.1, HTE.out.2.2.1, HTE.out.2.2.2] at HPT
            rw [HTE.out.2.2.1] at HPE
            rw [HTE.out.1, HTE.out.2.1, HTE.out.2.2.1, HTE.out.2.2.2] at HLN
            rw [HTE.out.1] at HP1
            rw [HTE.out.2.1] at HP2
            rw [HTE.out.2.2.1] at HP3
            rw [HTE.out.2.2.2] at HP4
            obtain ⟨n1, n2, n3, n4, HNL⟩ : ∃ n1 n2 n3 n4, Hid (T1.length = n1 ∧ T2.length = n2 ∧ T3.length = n3 ∧ T4.length = n4) := ⟨_, _, _, _, rfl, rfl, rfl, rfl⟩
            rw [HNL.out.1] at HP1
            rw [HNL.out.2.1] at HP2
            rw [HNL.out.2.2.1] at HP3
            rw [HNL.out.2.2.2] at HP4
            rw [HNL.out.1, HNL.out.2.1, HNL.out.2.2.1, HNL.out.2.2.2] at HLN
            unfold Bd.v noB at HP1 HP2 HP4
            unfold Bd.v at HP3
            dsimp only at HP1 HP2 HP3 HP4
            clear HTE hn0
            have q0 : Below W.heap.size W W.drew := (Below.refl _ _).drew
            go_wp2_with fail
            go_region_held (fun w' => (w'.cell? ⟨p1, 0, none⟩ = some (.bool true) ∧ w'.cell? ⟨p1, 1, none⟩ = some (.bool true) ∧ w'.cell? ⟨p1, 2, none⟩ = some (.int .i64 k) ∧ w'.cell? ⟨p1, 3, none⟩ = some (.int .i64 n) ∧ w'.cell? ⟨p1, 4, none⟩ = some (.string s)) ∧ (w'.cell? ⟨p2, 0, none⟩ = some (.bool true) ∧ w'.cell? ⟨p2, 1, none⟩ = some (.bool false) ∧ w'.cell? ⟨p2, 2, none⟩ = some (.int .i64 k) ∧ w'.cell? ⟨p2, 3, none⟩ = some (.int .i64 n) ∧ w'.cell? ⟨p2, 4, none⟩ = some (.string s)) ∧ (w'.cell? ⟨p3, 0, none⟩ = some (.bool false) ∧ w'.cell? ⟨p3, 1, none⟩ = some (.bool false) ∧ w'.cell? ⟨p3, 2, none⟩ = some (.int .i64 0) ∧ w'.cell? ⟨p3, 3, none⟩ = some (.int .i64 0) ∧ w'.cell? ⟨p3, 4, none⟩ = some (.string ⟨#[]⟩))) (exact KS.out _ (by assumption)) (first
              | (go_at_call 17
                 with_reducible refine (HP1.out _ q0).mono ?_
                 rintro e y1 ⟨a1, c1, rfl, o1, b1⟩
                 have q1 := tbelow_on q0 b1
                 have O1 := thid o1
                 have B1 := thid b1
                 clear o1 b1)
              | (go_at_call 17
                 with_reducible refine (HP2.out _ q1).mono ?_
                 rintro e y2 ⟨a2, c2, rfl, o2, b2⟩
                 have q2 := tbelow_on q1 b2
                 have O2 := thid o2
                 have B2 := thid b2
                 clear o2 b2)
              | (go_at_call 17
                 with_reducible refine (HP3.out _ q2).mono ?_
                 rintro e y3 ⟨a3, c3, rfl, o3, b3⟩
                 have q3 := tbelow_on q2 b3
                 have O3 := thid o3
                 have B3 := thid b3
                 clear o3 b3)
              | (go_at_call 17
                 with_reducible refine (HP4.out _ q3).mono ?_
                 rintro e y4 ⟨a4, c4, rfl, o4, b4⟩
                 have q4 := tbelow_on q3 b4
                 have O4 := thid o4
                 have B4 := thid b4
                 clear o4 b4))
            have P1 := thid (L5.owns_of_block O1.out fun q hq => (tbelow_on (tbelow_on B2.out B3.out) B4.out).block q (O1.out.lt q hq).2)
            have P2 := thid (L5.owns_of_block O2.out fun q hq => (tbelow_on B3.out B4.out).block q (O2.out.lt q hq).2)
            have P3 := thid (L5.owns_of_block O3.out fun q hq => B4.out.block q (O3.out.lt q hq).2)
            have Q4 := thid q4
            obtain ⟨z1, z2, z3, z4⟩ := HLN.out
            have e1 : n1 ≤ 150 := by omega
            have e2 : n2 ≤ 150 := by omega
            have e3 : n3 ≤ 150 := by omega
            have e4 : n4 ≤ 150 := by omega
            clear O1 O2 O3 B1 B2 B3 B4 q0 q1 q2 q3 q4 KS HP1 HP2 HP3 HP4 i0 i1 i2 i3 i4 j0 j1 j2 j3 j4 m0 m1 m2 m3 m4 il jl ml HLN z1 z2 z3 z4 HC hps
            have HG8 := thid ((Q4.out.block _ (Array.getElem?_eq_some_iff.1 HG7.out).1).trans HG7.out)
            have f0 : y4.cell? ⟨w.heap.size, 0, none⟩ = some (.int .i64 k) := by rw [cell_of_row _ _ _ _ _ _ HG8.out]; rfl
            have f1 : y4.cell? ⟨w.heap.size, 1, none⟩ = some (.int .i64 n) := by rw [cell_of_row _ _ _ _ _ _ HG8.out]; rfl
            have f2 : y4.cell? ⟨w.heap.size, 2, none⟩ = some (.string s) := by rw [cell_of_row _ _ _ _ _ _ HG8.out]; rfl
            have fl := (Array.getElem?_eq_some_iff.1 HG8.out).1
            have HBF : Hid (Below w.heap.size w y4) := tbelow_on (tbelow_on HB5.out HK.out.bel) Q4.out
            cases h24 : decide (24 < (s.size : Int)) with
            | true =>
              go_wp2
              go_ret
              exact ⟨rfl, HBF.out⟩
            | false =>
              have HAD := thid (iadd_less (k := k) (s := s) (id := -1) (HK.out.on Q4.out) HNF.out (HMX.out.on Q4.out) (by decide) (by omega))
              unfold valV at HAD
              go_wp2_with fail
              refine HAD.out.mono ?_
              rintro e y5 ⟨rfl, b5⟩
              have Q5 := thid (tbelow_on Q4.out b5)
              have R1 := thid (L5.owns_of_block P1.out fun q hq => b5.block q (P1.out.lt q hq).2)
              have R2 := thid (L5.owns_of_block P2.out fun q hq => b5.block q (P2.out.lt q hq).2)
              have R3 := thid (L5.owns_of_block P3.out fun q hq => b5.block q (P3.out.lt q hq).2)
              have R4 := thid (L5.owns_of_block O4.out fun q hq => b5.block q (O4.out.lt q hq).2)
              have g0 : y5.cell? ⟨w.heap.size, 0, none⟩ = some (.int .i64 k) := (b5.cell (p := ⟨w.heap.size, 0, none⟩) fl).trans f0
              have g1 : y5.cell? ⟨w.heap.size, 1, none⟩ = some (.int .i64 n) := (b5.cell (p := ⟨w.heap.size, 1, none⟩) fl).trans f1
              have g2 : y5.cell? ⟨w.heap.size, 2, none⟩ = some (.string s) := (b5.cell (p := ⟨w.heap.size, 2, none⟩) fl).trans f2
              have gl := Nat.lt_of_lt_of_le fl b5.size
              clear HAD b5 P1 P2 P3 O4 f0 f1 f2 fl HG8 HBF
              have HFI := thid (first_ok (k := k) (n := n) (s := s) (eachC_ok (lo := ⟨true, true, k, n, s⟩) (hi := ⟨true, true, k, n, s⟩) (HK.out.on Q5.out).ix (HK.out.on Q5.out).tw (HMX.out.on Q5.out) HNF.out HNF.out (by have := HK.out.fat.few HK.out.tw.tp.sub; omega)))
              obtain ⟨fi, fo, HFE⟩ : ∃ fi fo, Hid (((⟨true, true, k, n, s⟩ : Bd).told ⟨true, true, k, n, s⟩ pfF es (0, false)).1 = fi ∧ ((⟨true, true, k, n, s⟩ : Bd).told ⟨true, true, k, n, s⟩ pfF es (0, false)).2 = fo) := ⟨_, _, rfl, rfl⟩
              rw [HFE.out.1, HFE.out.2] at HFI
              rw [HFE.out.2] at HPE
              clear HFE
              unfold valV at HFI
              go_wp2_with fail
              refine HFI.out.mono ?_
              rintro e y6 ⟨rfl, b6⟩
              have Q6 := thid (tbelow_on Q5.out b6)
              have S1 := thid (L5.owns_of_block R1.out fun q hq => b6.block q (R1.out.lt q hq).2)
              have S2 := thid (L5.owns_of_block R2.out fun q hq => b6.block q (R2.out.lt q hq).2)
              have S3 := thid (L5.owns_of_block R3.out fun q hq => b6.block q (R3.out.lt q hq).2)
              have S4 := thid (L5.owns_of_block R4.out fun q hq => b6.block q (R4.out.lt q hq).2)
              have HBF : Hid (Below w.heap.size w y6) := tbelow_on (tbelow_on HB5.out HK.out.bel) Q6.out
              clear HFI b6 R1 R2 R3 R4 g0 g1 g2 gl Q5 Q4
              have hw1 : IntKind.i64.wrap ((n2 : Int) + (n3 : Int)) = (n2 : Int) + (n3 : Int) := by rw [IntKind.wrap_i64]; omega
              have hw2 : IntKind.i64.wrap ((n2 : Int) + (n3 : Int) + (n4 : Int)) = (n2 : Int) + (n3 : Int) + (n4 : Int) := by rw [IntKind.wrap_i64]; omega
              have HT3 : Hid (decide (0 < (n3 : Int)) = true → fo = true) := fun h => HPE.out (by
                intro e
                rw [← HNL.out.2.2.1, e] at h
                simp at h)
              have HSUM : Hid (((n2 : Int) + (n3 : Int) + (n4 : Int) == 0) = false → T2 ++ T3 ++ T4 = T1) := fun hz => by
                rcases HPT.out with h | ⟨h1, h2, h4⟩
                · exact h
                · rw [← HNL.out.2.1, ← HNL.out.2.2.1, ← HNL.out.2.2.2, h1, h2, h4] at hz
                  simp at hz
              clear HPT HPE
              by_cases hn3 : n3 = 0
              · by_cases hn24 : n2 = 0 ∧ n4 = 0
                · obtain ⟨h2, h4⟩ := hn24
                  subst hn3 h2 h4
                  clear HSUM HT3 hw1 hw2 HNL S1 S2 S3 S4
                  go_wp2
                  go_ret
                  exact ⟨rfl, HBF.out⟩
                · have hz0 : ((n2 : Int) + (n3 : Int) + (n4 : Int) == 0) = false := by rw [beq_eq_false_iff_ne]; omega
                  have HSM := thid (HSUM.out hz0)
                  clear HSUM HT3
                  subst hn3
                  have hz1 : ¬ ((n2 : Int) + (n4 : Int) = 0) := by omega
                  have hz2 : ((n2 : Int) + (n4 : Int) == 0) = false := by rw [beq_eq_false_iff_ne]; omega
                  go_upto_region 23 with fail
                  clear hw1 hw2 hz0 hz1 hz2
                  have HB7 := thid (tbelow y6 (.cells #[] 49))
                  have U0 := thid (World.ownsRow_lit (base := y6.heap.size) (e := 49) (size := 4) y6 #[] 0 (Nat.le_refl _) (by unfold maxLen; omega) (by simp))
                  have U1 := thid (L5.owns_of_block S1.out fun q hq => HB7.out.block q (S1.out.lt q hq).2)
                  have U2 := thid (L5.owns_of_block S2.out fun q hq => HB7.out.block q (S2.out.lt q hq).2)
                  have U3 := thid (L5.owns_of_block S3.out fun q hq => HB7.out.block q (S3.out.lt q hq).2)
                  have U4 := thid (L5.owns_of_block S4.out fun q hq => HB7.out.block q (S4.out.lt q hq).2)
                  have L1 := thid (fun q hq => (S1.out.lt q hq).2)
                  have L3 := thid (fun q hq => (S3.out.lt q hq).2)
                  have L4 := thid (fun q hq => (S4.out.lt q hq).2)
                  clear S1 S2 S3 S4
                  go_wp2_with (first
                    | (at_builtin
                       revert U1)
                    | fail)
                  intro U1
                  refine appendN (by kernel_rfl) rfl y6.heap.size (by simp) _ _ rfl _ [] T2 0 n2 rfl HNL.out.2.1 rfl U0.out (by omega) a2 c2 _ rfl U2.out ?_
                  intro v1 w7 ow1 gr1
                  have C7 := thid (HB7.out.grown gr1 (by simp) (fun k hk => (U0.out.lt k hk).1))
                  have X1 := thid (owns_past U1.out L1.out U0.out gr1)
                  have X3 := thid (owns_past U3.out L3.out U0.out gr1)
                  have X4 := thid (owns_past U4.out L4.out U0.out gr1)
                  rw [Nat.zero_add, List.nil_append] at ow1
                  obtain ⟨ad1, cp1, rfl⟩ := own_slice ow1
                  have OW1 := thid ow1
                  clear ow1 gr1 U0 U1 U2 U3 U4 HB7
                  go_wp2_with (first
                    | (at_builtin
                       revert X1)
                    | fail)
                  intro X1
                  refine appendN (by kernel_rfl) rfl y6.heap.size C7.out.size _ _ rfl _ T2 T3 n2 0 HNL.out.2.1 HNL.out.2.2.1 rfl OW1.out (by omega) a3 c3 _ rfl X3.out ?_
                  intro v2 w8 ow2 gr2
                  have C8 := thid (C7.out.grown gr2 C7.out.size (fun k hk => (OW1.out.lt k hk).1))
                  have Y1 := thid (owns_past X1.out L1.out OW1.out gr2)
                  have Y4 := thid (owns_past X4.out L4.out OW1.out gr2)
                  rw [Nat.add_zero] at ow2
                  obtain ⟨ad2, cp2, rfl⟩ := own_slice ow2
                  have OW2 := thid ow2
                  clear ow2 gr2 OW1 X1 X3 X4 C7
                  go_wp2_with (first
                    | (at_builtin
                       revert Y1)
                    | fail)
                  intro Y1
                  refine appendN (by kernel_rfl) rfl y6.heap.size C8.out.size _ _ rfl _ (T2 ++ T3) T4 n2 n4 (by rw [List.length_append, HNL.out.2.1, HNL.out.2.2.1]; rfl) HNL.out.2.2.2 rfl OW2.out (by omega) a4 c4 _ rfl Y4.out ?_
                  intro v3 w9 ow3 gr3
                  have C9 := thid (C8.out.grown gr3 C8.out.size (fun k hk => (OW2.out.lt k hk).1))
                  have Z1 := thid (owns_past Y1.out L1.out OW2.out gr3)
                  obtain ⟨ad3, cp3, rfl⟩ := own_slice ow3
                  have hln : n2 + n4 = n1 := by
                    have h1 := congrArg List.length HSM.out
                    rw [List.length_append, List.length_append, HNL.out.1, HNL.out.2.1, HNL.out.2.2.1, HNL.out.2.2.2] at h1
                    omega
                  rw [hln] at ow3 ⊢
                  have hlist : T2 ++ T3 ++ T4 = T1 := HSM.out
                  rw [hlist, ← HNL.out.1] at ow3
                  have Z1' := Z1.out
                  rw [← HNL.out.1] at Z1'
                  have HSA := thid (same_prs (c := cp3) (d := c1) (prIn ow3) (prIn Z1') (by rw [HNL.out.1]; omega))
                  rw [HNL.out.1] at HSA
                  have HB9 := thid (HBF.out.trans (C9.out.mono HBF.out.size))
                  clear ow3 gr3 OW2 Y1 Y4 C8 Z1 Z1' C9 hlist hln
                  go_wp2_with fail
                  refine HSA.out.mono ?_
                  rintro e w10 ⟨rfl, b10⟩
                  have HB10 := thid (tbelow_on HB9.out b10)
                  clear HSA b10 HB9
                  go_wp2
                  go_ret
                  exact ⟨rfl, HB10.out⟩
              · have h3 : decide (0 < (n3 : Int)) = true := by simp; omega
                have hfo := HT3.out h3
                subst hfo
                have hp3 : 0 < n3 := by omega
                have hz0 : ((n2 : Int) + (n3 : Int) + (n4 : Int) == 0) = false := by rw [beq_eq_false_iff_ne]; omega
                have HSM := thid (HSUM.out hz0)
                have hz1 : ¬ ((n2 : Int) + (n3 : Int) + (n4 : Int) = 0) := by omega
                have hz2 : True := trivial
                clear HSUM HT3 h3
                go_upto_region 23 with fail
                clear hw1 hw2 hz0 hz1 hz2
                have HB7 := thid (tbelow y6 (.cells #[] 49))
                have U0 := thid (World.ownsRow_lit (base := y6.heap.size) (e := 49) (size := 4) y6 #[] 0 (Nat.le_refl _) (by unfold maxLen; omega) (by simp))
                have U1 := thid (L5.owns_of_block S1.out fun q hq => HB7.out.block q (S1.out.lt q hq).2)
                have U2 := thid (L5.owns_of_block S2.out fun q hq => HB7.out.block q (S2.out.lt q hq).2)
                have U3 := thid (L5.owns_of_block S3.out fun q hq => HB7.out.block q (S3.out.lt q hq).2)
                have U4 := thid (L5.owns_of_block S4.out fun q hq => HB7.out.block q (S4.out.lt q hq).2)
                have L1 := thid (fun q hq => (S1.out.lt q hq).2)
                have L3 := thid (fun q hq => (S3.out.lt q hq).2)
                have L4 := thid (fun q hq => (S4.out.lt q hq).2)
                clear S1 S2 S3 S4
                go_wp2_with (first
                  | (at_builtin
                     revert U1)
                  | fail)
                intro U1
                refine appendN (by kernel_rfl) rfl y6.heap.size (by simp) _ _ rfl _ [] T2 0 n2 rfl HNL.out.2.1 rfl U0.out (by omega) a2 c2 _ rfl U2.out ?_
                intro v1 w7 ow1 gr1
                have C7 := thid (HB7.out.grown gr1 (by simp) (fun k hk => (U0.out.lt k hk).1))
                have X1 := thid (owns_past U1.out L1.out U0.out gr1)
                have X3 := thid (owns_past U3.out L3.out U0.out gr1)
                have X4 := thid (owns_past U4.out L4.out U0.out gr1)
                rw [Nat.zero_add, List.nil_append] at ow1
                obtain ⟨ad1, cp1, rfl⟩ := own_slice ow1
                have OW1 := thid ow1
                clear ow1 gr1 U0 U1 U2 U3 U4 HB7
                go_wp2_with (first
                  | (at_builtin
                     revert X1)
                  | fail)
                intro X1
                refine appendN (by kernel_rfl) rfl y6.heap.size C7.out.size _ _ rfl _ T2 T3 n2 n3 HNL.out.2.1 HNL.out.2.2.1 rfl OW1.out (by omega) a3 c3 _ rfl X3.out ?_
                intro v2 w8 ow2 gr2
                have C8 := thid (C7.out.grown gr2 C7.out.size (fun k hk => (OW1.out.lt k hk).1))
                have Y1 := thid (owns_past X1.out L1.out OW1.out gr2)
                have Y4 := thid (owns_past X4.out L4.out OW1.out gr2)
                obtain ⟨ad2, cp2, rfl⟩ := own_slice ow2
                have OW2 := thid ow2
                clear ow2 gr2 OW1 X1 X3 X4 C7
                go_wp2_with (first
                  | (at_builtin
                     revert Y1)
                  | fail)
                intro Y1
                refine appendN (by kernel_rfl) rfl y6.heap.size C8.out.size _ _ rfl _ (T2 ++ T3) T4 (n2 + n3) n4 (by rw [List.length_append, HNL.out.2.1, HNL.out.2.2.1]) HNL.out.2.2.2 rfl OW2.out (by omega) a4 c4 _ rfl Y4.out ?_
                intro v3 w9 ow3 gr3
                have C9 := thid (C8.out.grown gr3 C8.out.size (fun k hk => (OW2.out.lt k hk).1))
                have Z1 := thid (owns_past Y1.out L1.out OW2.out gr3)
                obtain ⟨ad3, cp3, rfl⟩ := own_slice ow3
                have hln : n2 + n3 + n4 = n1 := by
                  have h1 := congrArg List.length HSM.out
                  rw [List.length_append, List.length_append, HNL.out.1, HNL.out.2.1, HNL.out.2.2.1, HNL.out.2.2.2] at h1
                  omega
                rw [hln] at ow3 ⊢
                have hlist : T2 ++ T3 ++ T4 = T1 := HSM.out
                rw [hlist, ← HNL.out.1] at ow3
                have Z1' := Z1.out
                rw [← HNL.out.1] at Z1'
                have HSA := thid (same_prs (c := cp3) (d := c1) (prIn ow3) (prIn Z1') (by rw [HNL.out.1]; omega))
                rw [HNL.out.1] at HSA
                have HB9 := thid (HBF.out.trans (C9.out.mono HBF.out.size))
                clear ow3 gr3 OW2 Y1 Y4 C8 Z1 Z1' C9 hlist hln
                go_wp2_with fail
                refine HSA.out.mono ?_
                rintro e w10 ⟨rfl, b10⟩
                have HB10 := thid (tbelow_on HB9.out b10)
                clear HSA b10 HB9
                go_wp2
                go_ret
                exact ⟨rfl, HB10.out⟩
end Go.Proofs.YtjocopclgehciaaGreatDoor
/-
  From what an argument of calls reads as to how the calls lie in memory.
-/
namespace Go.Proofs.YtjocopclgehciaaGreatDoor
open Go.RowKit Go.Deep
open L3 (fits valV)

theorem trod_struct5 {H : Type} {enc : TypeId × Value → H} {P : Program} {w : World} {base : Nat} {spare : Nat → Bool} {held : Bool} {t : TypeId} {f0 f1 f2 f3 f4 : Field} {fuel : Nat} {cs : List Value} {x : DataW H × List MemPlace} (ht : P.underlying t = some (.struct #[f0, f1, f2, f3, f4])) (h : DataW.trod enc P w base spare held fuel t cs = some x) :
    ∃ y0 y1 y2 y3 y4 n, cs.length = P.cellsOf t ∧ DataW.trod enc P w base spare held n f0.type ((cs.drop f0.offset).take (P.cellsOf f0.type)) = some y0 ∧
      DataW.trod enc P w base spare held n f1.type ((cs.drop f1.offset).take (P.cellsOf f1.type)) = some y1 ∧ DataW.trod enc P w base spare held n f2.type ((cs.drop f2.offset).take (P.cellsOf f2.type)) = some y2 ∧
      DataW.trod enc P w base spare held n f3.type ((cs.drop f3.offset).take (P.cellsOf f3.type)) = some y3 ∧ DataW.trod enc P w base spare held n f4.type ((cs.drop f4.offset).take (P.cellsOf f4.type)) = some y4 := by
  obtain ⟨xs, n, _, rfl, hl, hlen, hf⟩ := DataW.trod_struct ht h
  match xs, hlen with
  | [y0, y1, y2, y3, y4], _ => exact ⟨y0, y1, y2, y3, y4, n, hl, by simpa using hf 0 f0 rfl, by simpa using hf 1 f1 rfl, by simpa using hf 2 f2 rfl, by simpa using hf 3 f3 rfl, by simpa using hf 4 f4 rfl⟩

theorem Tryz.cellsOp : Tryz.prog.cellsOf 41 = 15 := by kernel_rfl
theorem Tryz.cellsBd : Tryz.prog.cellsOf 39 = 5 := by kernel_rfl
theorem Tryz.cellsVal : Tryz.prog.cellsOf 37 = 3 := by kernel_rfl
theorem Tryz.cellsInt : Tryz.prog.cellsOf 3 = 1 := by kernel_rfl
theorem Tryz.cellsBool : Tryz.prog.cellsOf 4 = 1 := by kernel_rfl
theorem Tryz.cellsStr : Tryz.prog.cellsOf 9 = 1 := by kernel_rfl

theorem one_of_take {cs : List Value} {j : Nat} {v : Value} (h : (cs.drop j).take 1 = [v]) : cs[j]? = some v := by
  have := congrArg (·[0]?) h
  simpa using this

theorem sub_at {cs : List Value} {a n b : Nat} {v : Value} (h : ((cs.drop a).take n)[b]? = some v) : cs[a + b]? = some v := by
  rw [List.getElem?_take] at h
  split at h
  · rwa [List.getElem?_drop] at h
  · cases h

section
variable {H : Type} {enc : TypeId × Value → H} {w : World}

set_option maxRecDepth 100000 in
theorem read_val {fuel : Nat} {cs : List Value} {x : DataW H × List MemPlace} (h : DataW.trod enc Tryz.prog w 0 (fun _ => true) true fuel 37 cs = some x) : ∃ k n s, fits n = true ∧ cs[0]? = some (.int .i64 k) ∧ cs[1]? = some (.int .i64 n) ∧ cs[2]? = some (.string s) := by
  obtain ⟨y0, y1, y2, n', -, -, f0, f1, f2⟩ := trod_struct3 Tryz.underlying37 h
  obtain ⟨k, g0, -, -⟩ := DataW.trod_int Tryz.underlying3 f0
  obtain ⟨q, g1, -, hq⟩ := DataW.trod_int Tryz.underlying3 f1
  obtain ⟨s, g2, -, -⟩ := DataW.trod_string Tryz.underlying9 f2
  exact ⟨k, q, s, fits_of_wf hq, one_of_take g0, one_of_take g1, one_of_take g2⟩

set_option maxRecDepth 100000 in
theorem read_bound {fuel : Nat} {cs : List Value} {x : DataW H × List MemPlace} (h : DataW.trod enc Tryz.prog w 0 (fun _ => true) true fuel 39 cs = some x) : ∃ b : Bd, fits b.n = true ∧ cs[0]? = some (.bool b.has) ∧ cs[1]? = some (.bool b.incl) ∧ cs[2]? = some (.int .i64 b.k) ∧ cs[3]? = some (.int .i64 b.n) ∧ cs[4]? = some (.string b.s) := by
  obtain ⟨y0, y1, y2, n', -, -, f0, f1, f2⟩ := trod_struct3 Tryz.underlying39 h
  obtain ⟨b0, g0, -⟩ := DataW.trod_bool Tryz.underlying4 f0
  obtain ⟨b1, g1, -⟩ := DataW.trod_bool Tryz.underlying4 f1
  obtain ⟨k, n, s, hn, c0, c1, c2⟩ := read_val f2
  exact ⟨⟨b0, b1, k, n, s⟩, hn, one_of_take g0, one_of_take g1, sub_at c0, sub_at c1, sub_at c2⟩

set_option maxRecDepth 100000 in
theorem read_op {fuel : Nat} {cs : List Value} {x : DataW H × List MemPlace} (h : DataW.trod enc Tryz.prog w 0 (fun _ => true) true fuel 41 cs = some x) : ∃ o : OpX, o.fit ∧ cs = o.cs := by
  obtain ⟨y0, y1, y2, y3, y4, n', hl, f0, f1, f2, f3, f4⟩ := trod_struct5 Tryz.underlying41 h
  obtain ⟨K, g0, -, -⟩ := DataW.trod_int Tryz.underlying3 f0
  obtain ⟨id, g1, -, -⟩ := DataW.trod_int Tryz.underlying3 f1
  obtain ⟨k, n, s, hn, c0, c1, c2⟩ := read_val f2
  obtain ⟨lo, hlo, l0, l1, l2, l3, l4⟩ := read_bound f3
  obtain ⟨hi, hhi, h0, h1, h2, h3, h4⟩ := read_bound f4
  refine ⟨⟨K, id, k, n, s, lo, hi⟩, ⟨hn, hlo, hhi⟩, ?_⟩
  rw [Tryz.cellsOp] at hl
  have e0 := one_of_take g0
  have e1 := one_of_take g1
  have a2 := sub_at c0
  have a3 := sub_at c1
  have a4 := sub_at c2
  have a5 := sub_at l0
  have a6 := sub_at l1
  have a7 := sub_at l2
  have a8 := sub_at l3
  have a9 := sub_at l4
  have a10 := sub_at h0
  have a11 := sub_at h1
  have a12 := sub_at h2
  have a13 := sub_at h3
  have a14 := sub_at h4
  refine List.ext_getElem? fun i => ?_
  by_cases hi15 : i < 15
  · have : i = 0 ∨ i = 1 ∨ i = 2 ∨ i = 3 ∨ i = 4 ∨ i = 5 ∨ i = 6 ∨ i = 7 ∨ i = 8 ∨ i = 9 ∨ i = 10 ∨ i = 11 ∨ i = 12 ∨ i = 13 ∨ i = 14 := by omega
    rcases this with rfl | rfl | rfl | rfl | rfl | rfl | rfl | rfl | rfl | rfl | rfl | rfl | rfl | rfl | rfl
    · exact e0
    · exact e1
    · exact a2
    · exact a3
    · exact a4
    · exact a5
    · exact a6
    · exact a7
    · exact a8
    · exact a9
    · exact a10
    · exact a11
    · exact a12
    · exact a13
    · exact a14
  · rw [List.getElem?_eq_none (by omega), List.getElem?_eq_none (by simp [OpX.cs]; omega)]

theorem list_opx {p : Nat → OpX → Prop} : ∀ n, (∀ i, i < n → ∃ v, p i v) → ∃ l : List OpX, l.length = n ∧ ∀ i (h : i < l.length), p i l[i]
  | 0, _ => ⟨[], rfl, fun i h => by simp at h⟩
  | n + 1, h => by
    obtain ⟨l, hl, hp⟩ := list_opx n fun i hi => h i (by omega)
    obtain ⟨v, hv⟩ := h n (by omega)
    refine ⟨l ++ [v], by simp [hl], fun i hi => ?_⟩
    by_cases e : i < l.length
    · rw [List.getElem_append_left e]; exact hp i e
    · have : i = l.length := by simp at hi; omega
      subst this
      simp
      rw [hl]
      exact hv

set_option maxRecDepth 100000 in
theorem open_ops {base : Nat} {v : Value} {d : DataW H} {p : List MemPlace} (hv : Value.okWide Tryz.prog w .any base 22 v) (h : DataW.Trod enc Tryz.prog w 0 (fun _ => true) true 22 v d p) : ∃ a cap, ∃ l : List OpX, v = .slice a l.length cap ∧ OpsIn w a l ∧ ∀ o ∈ l, o.fit := by
  obtain ⟨a0, len0, cap0, rfl⟩ := Go.WideShapes.okWide_slice Tryz.underlying22 hv
  obtain ⟨fuel, hf⟩ := h
  rcases open_slice Tryz.underlying22 hf with ⟨hcs, hx⟩ | ⟨a, len, cap, m, n, D, Pl, hcs, hb, hl, hm, hmm, hx, hel⟩
  · simp [Value.cells] at hcs
    obtain ⟨rfl, rfl, rfl⟩ := hcs
    exact ⟨none, 0, [], rfl, fun j hj => by simp at hj, fun o ho => by cases ho⟩
  · simp [Value.cells] at hcs
    obtain ⟨rfl, rfl, rfl⟩ := hcs
    simp only [if_true] at hmm
    subst hmm
    by_cases hz : len0 = 0
    · subst hz
      exact ⟨_, _, [], rfl, fun j hj => by simp at hj, fun o ho => by cases ho⟩
    have hsp : a.spot = none := by
      obtain ⟨cs', hc, -⟩ := hel 0 (by omega)
      rw [Tryz.cellsOp] at hc
      obtain ⟨-, hlen, hcell⟩ := World.cells?_some hc
      have h0 := hcell 0 (by decide)
      rw [List.getElem?_eq_getElem (by omega)] at h0
      have := World.cell?_spot h0
      simpa [Addr.add] using this
    obtain ⟨b, o, sp⟩ := a
    simp only at hsp
    subst hsp
    have key : ∀ i, i < len0 → ∃ x : OpX, x.fit ∧ b < w.heap.size ∧ ∀ j u, x.cs[j]? = some u → w.cell? ⟨b, o + i * 15 + j, none⟩ = some u := by
      intro i hi
      obtain ⟨cs', hc, ht⟩ := hel i (by omega)
      rw [Tryz.cellsOp] at hc
      obtain ⟨-, hlen, hcell⟩ := World.cells?_some hc
      obtain ⟨x, hfit, rfl⟩ := read_op ht
      have cc : ∀ j u, x.cs[j]? = some u → w.cell? ⟨b, o + i * 15 + j, none⟩ = some u := fun j u hu => by
        have hj : j < 15 := by rw [← hlen]; exact (List.getElem?_eq_some_iff.1 hu).1
        have := hcell j hj
        rw [add_add, show (⟨b, o, none⟩ : Addr).add (i * 15 + j) = ⟨b, o + i * 15 + j, none⟩ by unfold Addr.add; split <;> simp <;> omega] at this
        rw [this, hu]
      exact ⟨x, hfit, World.block_lt_of_cell? _ _ (cc 0 _ rfl), cc⟩
    obtain ⟨l, hl2, hp⟩ := list_opx len0 key
    subst hl2
    exact ⟨_, _, l, rfl, fun j hj => ⟨b, o, rfl, (hp j hj).2⟩, fun x hx => by
      obtain ⟨i, hi, rfl⟩ := List.getElem_of_mem hx
      exact (hp i hi).1⟩

set_option maxRecDepth 100000 in
theorem open_op {base : Nat} {v : Value} {d : DataW H} {p : List MemPlace} (hv : Value.okWide Tryz.prog w .any base 41 v) (h : DataW.Trod enc Tryz.prog w 0 (fun _ => true) true 41 v d p) : ∃ o : OpX, v = o.v ∧ o.fit := by
  obtain ⟨cs, rfl, hsz⟩ := Go.WideShapes.okWide_struct Tryz.underlying41 hv
  obtain ⟨fuel, hf⟩ := h
  obtain ⟨x, hfit, hc⟩ := read_op hf
  refine ⟨x, ?_, hfit⟩
  unfold OpX.v
  rw [← hc]
  simp [Value.cells]
end
end Go.Proofs.YtjocopclgehciaaGreatDoor
