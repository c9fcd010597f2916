/-
  Delta: Net of package delta.
-/
import Derived.Test.YtmcbpopeinabcaaDlF
namespace Go.Proofs.Ytmcbpopeinabcaa
open Go.RowKit

/-- A list that is gathered, of copies: what lay in w stands. -/
structure NetW (w : World) (v : Value) (N : List PC) (W : World) : Prop where
  below : Below w.heap.size w W
  own : W.ownsRow w.heap.size 27 4 v N.length (rcs N)
  all : AllM W N
  rows : ∀ x ∈ N, W.ownsRow w.heap.size 55 3 (.slice x.1.na x.1.nl x.1.nc) x.1.nl (vcs x.2.n)
  olds : ∀ x ∈ N, W.ownsRow w.heap.size 55 3 (.slice x.1.oa x.1.ol x.1.oc) x.1.ol (vcs x.2.o)
  apart : ∀ x ∈ N, ∀ b, Value.ownBlock (.slice x.1.oa x.1.ol x.1.oc) = some b → Value.ownBlock (.slice x.1.na x.1.nl x.1.nc) = some b → False

/-- Blocks of two types are two. -/
theorem owns_ne {W : World} {b1 b2 e1 e2 s1 s2 : Nat} {v1 v2 : Value} {n1 n2 : Nat} {xs ys : List Value} (h1 : W.ownsRow b1 e1 s1 v1 n1 xs) (h2 : W.ownsRow b2 e2 s2 v2 n2 ys) (hne : e1 ≠ e2) {q : Nat} (g1 : v1.ownBlock = some q) (g2 : v2.ownBlock = some q) : False := by
  rcases h1.2 with ⟨rfl, _⟩ | ⟨g, cap, cur, rfl, _, hg, _⟩
  · cases g1
  · rcases h2.2 with ⟨rfl, _⟩ | ⟨g', cap', cur', rfl, _, hg', _⟩
    · cases g2
    · cases g1; cases g2
      rw [hg] at hg'
      injection hg' with hg'
      injection hg' with _ e
      exact hne e

theorem NetW.on {w W W' : World} {v : Value} {N : List PC} (h : NetW w v N W) (hb : Below W.heap.size W W') : NetW w v N W' := by
  refine ⟨below_on h.below hb h.below.size, owns_below h.own fun q hq => hb.block q (h.own.lt q hq).2, h.all.below hb, fun x hx => ?_, fun x hx => ?_, h.apart⟩
  · exact owns_below (h.rows x hx) fun q hq => hb.block q ((h.rows x hx).lt q hq).2
  · exact owns_below (h.olds x hx) fun q hq => hb.block q ((h.olds x hx).lt q hq).2

/-- Where a row of other blocks stands. -/
theorem slv_owns {W W' : World} {base : Nat} {a : Option Addr} {n c : Nat} {l : List Va} (h : W.ownsRow base 55 3 (.slice a n c) n (vcs l)) (hs : W.heap.size ≤ W'.heap.size) (hb : ∀ q, Value.ownBlock (.slice a n c) = some q → W'.heap[q]? = W.heap[q]?) : SlV W' a l :=
  (owns_sl h).2.1.turn hs fun b o e => hb b (by rw [e]; rfl)

/-- A copy more. -/
theorem NetW.grow {w W W1 W2 W3 : World} {v v3 : Value} {N : List PC} {r r' : RC} {c : Chg} (h : NetW w v N W) (hm : Means W r c) (hc : Copied W W1 r r' c) {o : Obj} (hw : W2 = W1.alloc o) (O : W3.ownsRow w.heap.size 27 4 v3 (N.length + 1) (rcs N ++ rcC r')) (G : W2.grownBy W3 v.ownBlock) : NetW w v3 (N ++ [(r', c)]) W3 := by
  subst hw
  have h1 := (h.on hc.below).on (below_alloc W1 o)
  have hm1 := (hc.means hm).below (below_alloc W1 o)
  have cn := owns_below (W' := W1.alloc o) hc.n fun q hq => Below.heap_alloc _ _ _ (hc.n.lt q hq).2
  have co := owns_below (W' := W1.alloc o) hc.o fun q hq => Below.heap_alloc _ _ _ (hc.o.lt q hq).2
  have hws : w.heap.size ≤ W.heap.size := h.below.size
  have keep : ∀ {b n : Nat} {u : Value} {xs : List Value}, (W1.alloc o).ownsRow b 55 3 u n xs → W3.ownsRow b 55 3 u n xs := fun hu => owns_below hu fun q hq => G.block q (hu.lt q hq).2 fun e => owns_ne hu h1.own (by decide) hq e.symm
  have keepM : ∀ {x : RC} {y : Chg} {b b' : Nat}, Means (W1.alloc o) x y → (W1.alloc o).ownsRow b 55 3 (.slice x.oa x.ol x.oc) x.ol (vcs y.o) → (W1.alloc o).ownsRow b' 55 3 (.slice x.na x.nl x.nc) x.nl (vcs y.n) → Means W3 x y := fun m ho hn =>
    ⟨m.t, m.id, m.ol, m.nl, m.ob, m.nb, (owns_sl (keep ho)).2.1, (owns_sl (keep hn)).2.1, m.oc, m.nc, m.tb, m.ib⟩
  refine ⟨h1.below.grown G h1.below.size fun k hk => (h1.own.lt k hk).1, ?_, ?_, ?_, ?_, ?_⟩
  · rw [List.length_append, rcs_append]; simpa [rcs] using O
  · intro x hx
    rcases List.mem_append.1 hx with hx | hx
    · exact keepM (h1.all x hx) (h1.olds x hx) (h1.rows x hx)
    · simp at hx; subst hx
      exact keepM hm1 co cn
  · intro x hx
    rcases List.mem_append.1 hx with hx | hx
    · exact keep (h1.rows x hx)
    · simp at hx; subst hx
      exact owns_mono (keep cn) fun q hq => by have := (cn.lt q hq).1; omega
  · intro x hx
    rcases List.mem_append.1 hx with hx | hx
    · exact keep (h1.olds x hx)
    · simp at hx; subst hx
      exact owns_mono (keep co) fun q hq => by have := (co.lt q hq).1; omega
  · intro x hx
    rcases List.mem_append.1 hx with hx | hx
    · exact h1.apart x hx
    · simp at hx; subst hx
      exact hc.apart

theorem NetW.mono {w w0 W : World} {v : Value} {N : List PC} (h : NetW w v N W) (hb : Below w0.heap.size w0 w) : NetW w0 v N W := by
  have hs := hb.size
  refine ⟨hb.trans (h.below.mono hs), owns_mono h.own fun q hq => ?_, h.all, fun x hx => owns_mono (h.rows x hx) fun q hq => ?_, fun x hx => owns_mono (h.olds x hx) fun q hq => ?_, h.apart⟩
  · have := (h.own.lt q hq).1; omega
  · have := ((h.rows x hx).lt q hq).1; omega
  · have := ((h.olds x hx).lt q hq).1; omega

theorem NetW.nil (w : World) : NetW w (.slice none 0 0) [] w := ⟨Below.refl _ _, World.ownsRow_nil _ _ _ _, fun _ h => (by cases h), fun _ h => (by cases h), fun _ h => (by cases h), fun _ h => (by cases h)⟩

def netF (D : List Chg) : List Chg := D.filter fun c => !(c.kind == 0)

theorem netF_snoc (D : List Chg) (c : Chg) : netF (D ++ [c]) = netF D ++ if c.kind == 0 then [] else [c] := by
  unfold netF
  rw [List.filter_append]
  cases h : (c.kind == 0) <;> simp [h]

/-- Where gathering stands: the world of the start, in which D lies. -/
structure NetR (w : World) (D : List PC) (j : Nat) (v : Value) (N : List PC) (W : World) : Prop where
  net : NetW w v N W
  is : N.map (·.2) = netF ((D.take j).map (·.2))

set_option maxRecDepth 100000 in
set_option maxHeartbeats 1000000 in
theorem net_walk {l : List PC} {a : Option Addr} {n c : Nat} {w : World} (hs : SlC w a l) (hm : AllM w l) (hl : l.length = n) (hn : n ≤ 1000) :
    Calls Try.prog 14 #[.slice a n c] w fun e w' => ∃ v, e = .returned v ∧ ∃ N, NetW w v N w' ∧ IsNet (l.map (·.2)) (N.map (·.2)) := by
  have HF := dhid (folded_walk (c := c) hs hm hl hn)
  have HM := dhid hm
  have hfl : (foldP l).length ≤ 1000 := Nat.le_trans (foldP_length l) (by omega)
  have HSORT : Hid (∀ W v, W.ownsRow w.heap.size 27 4 v (foldP l).length (rcs (foldP l)) → Below w.heap.size w W → Calls Try.prog 30 #[v, .func (.func 31) #[] #[]] W fun e W' => e = .returned (.tuple #[]) ∧ ∃ D, Sorted w W' v (foldP l) D) := fun W v h hb => sort_walk h hb hfl
  clear hs hm
  go_enter Try.func14, Try.ntmps14
  go_wp2_with fail
  refine HF.out.mono ?_
  rintro e W1 ⟨v1, rfl, O1, B1⟩
  have HS1 := dhid (HSORT.out W1 v1 O1 B1)
  clear O1 B1 HF HSORT
  go_wp2_with fail
  refine HS1.out.mono ?_
  rintro e W2 ⟨rfl, D, hD⟩
  obtain ⟨a2, c2, rfl, hSl⟩ := hD.slc
  have hDl : D.length ≤ 1000 := by rw [hD.perm.length_eq]; exact hfl
  have HMD : Hid (AllM W2 D) := fun x hx => (allM_fold HM.out x (hD.perm.mem_iff.1 hx)).below hD.below
  have HSD := dhid hSl
  have HD := dhid hD
  clear hSl hD HS1 HM
  go_wp2_with fail
  obtain ⟨m, HDm⟩ : ∃ m, Hid (D.length = m) := ⟨_, rfl⟩
  rw [HDm.out] at hDl ⊢
  go_loopw [4, 13] (fun s i wr => ∃ (j : Nat) (N : List PC), j ≤ m ∧ i = .int .i64 (j : Int) ∧ Hid (NetR W2 D j s N wr)) (fun _ i _ => m - (intOf i).toNat)
  case atStart => exact ⟨0, [], Nat.zero_le _, rfl, NetW.nil _, rfl⟩
  case round =>
    obtain ⟨j, N, hj, rfl, HW⟩ := hrel
    by_cases hlt : j < m
    · obtain ⟨b, o, x, rfl, hb, hx, c0, c1, c2, c3⟩ := (HSD.out.below HW.out.net.below).at (j := j) (by rw [HDm.out]; exact hlt)
      have HX := dhid hx
      clear hx
      have HMx := dhid (((HMD.out x (List.mem_of_getElem? HX.out)).below HW.out.net.below).below (below_alloc wr (.cells #[.string x.1.t, .int .i64 x.1.id, .slice x.1.oa x.1.ol x.1.oc, .slice x.1.na x.1.nl x.1.nc] 27)))
      have HK := dhid (kind_walk HMx.out)
      have HNF := dhid (netF_snoc ((D.take j).map (·.2)) x.2)
      generalize x.2.kind = k at HK HNF
      go_wp2_with fail
      refine HK.out.mono ?_
      rintro e W3 ⟨rfl, B3⟩
      have HN3 := dhid ((HW.out.net.on (below_alloc wr _)).on B3)
      have HM3 := dhid (HMx.out.below B3)
      have hc3 : Box4 W3 wr.heap.size (.string x.1.t) (.int .i64 x.1.id) (.slice x.1.oa x.1.ol x.1.oc) (.slice x.1.na x.1.nl x.1.nc) := by
        unfold Box4; rw [B3.block _ (by simp), go_heap_new]
      obtain ⟨x0, x1, x2, x3, -, -, -, -, xl⟩ := hc3.facts
      have HT : Hid ((D.take (j + 1)).map (·.2) = (D.take j).map (·.2) ++ [x.2]) := by rw [(take_mem HX.out).2, List.map_append]; rfl
      have HI := dhid HW.out.is
      have hNl : N.length ≤ 1000 := by
        have h1 : (N.map (·.2)).length ≤ ((D.take j).map (·.2)).length := by rw [HW.out.is]; exact List.length_filter_le _ _
        simp at h1; omega
      clear B3 HMx HK c0 c1 c2 c3 hb HW hc3
      cases hk : (k == 0)
      · rw [hk] at HNF
        have HC := dhid (copied_walk HM3.out)
        obtain ⟨a4, k4, rfl⟩ := owns_slice HN3.out.own
        go_wp2_with fail
        refine HC.out.mono ?_
        rintro e W4 ⟨r', rfl, C4⟩
        have HN4 := dhid (fun W5 v5 o O G => NetW.grow HN3.out HM3.out C4 (W3 := W5) (v3 := v5) (o := o) rfl O G)
        have HO4 := dhid (HN3.out.on C4.below).own
        have hz4 : W2.heap.size ≤ W4.heap.size := Nat.le_trans HN3.out.below.size C4.below.size
        clear C4 HN3 HM3 HC x0 x1 x2 x3 xl
        obtain ⟨NL, HNL⟩ : ∃ m, Hid (N.length = m) := ⟨_, rfl⟩
        rw [HNL.out] at hNl HN4 HO4 ⊢
        unfold rcV
        go_wp2_with (first | (at_builtin; refine append_src Try.underlying22 infoChg rfl (by decide) (by decide) rfl _ _ rfl W2.heap.size (by simp; omega) _ NL (rcs N) rfl (HO4.out.alloc _) _ 1 1 (rcC r') rfl (src_new _ _) rfl rcC_one (by omega) ?_) | go_in)
        intro v5 W5 O5 G5 A5
        have HN5 := dhid (HN4.out W5 v5 _ O5 G5)
        clear O5 G5 A5 HN4 HO4
        go_wp2
        refine ⟨⟨j + 1, N ++ [(r', x.2)], by omega, by go_num, HN5.out, ?_⟩, by simp [intOf]; omega⟩
        rw [HT.out, HNF.out, List.map_append, HI.out]; rfl
      · rw [hk] at HNF
        go_wp2
        refine ⟨⟨j + 1, N, by omega, by go_num, HN3.out, ?_⟩, by simp [intOf]; omega⟩
        rw [HT.out, HNF.out, HI.out]; simp
    · have hjn : j = m := by omega
      subst hjn
      have ht : D.take j = D := List.take_of_length_le (by rw [HDm.out]; exact Nat.le_refl _)
      have HI := HW.out.is
      rw [ht] at HI
      obtain ⟨a3, k3, rfl⟩ := owns_slice HW.out.net.own
      go_wp2
      go_ret
      refine ⟨_, rfl, N, HW.out.net.mono HD.out.below, ?_⟩
      rw [HI]
      refine net_of ?_ ?_
      · rw [← foldP_snd]; exact HD.out.perm.map _
      · rw [List.pairwise_map]
        refine List.Pairwise.imp_of_mem ?_ HD.out.rise
        intro p q hp hq hpq
        have mp := HMD.out p hp
        have mq := HMD.out q hq
        unfold Chg.key
        unfold RC.key at hpq
        rw [← mp.t, ← mp.id, ← mq.t, ← mq.id]
        exact hpq
end Go.Proofs.Ytmcbpopeinabcaa
