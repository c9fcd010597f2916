/-
  PageHalves: its walk.
-/
import Derived.Deep.RegionHeldLaw
import Derived.Laws.AppendOwnNone
import Derived.Test.YtmelakljiimlgaaNdH
import Derived.Test.YtmelakljiimlgaaHalfP
import Derived.Test.YtmelakljiimlgaaSpH
namespace Go.Proofs.Ytmelakljiimlgaa
open Go.RowKit

/-- Entries onto a row, as a step of a region that draws. -/
theorem step_strs {ops : Array Oper} {o : Oper} {a : Act} {K : Act → World → Prop} {Q : Exit → Act → World → Prop} {E : Prop} {W1 : World} (base : Nat) (hbase : base ≤ W1.heap.size) (hgd : o.guard = none) (s x : Operand) (ho : o.op = .call { callee := .builtin .append, args := #[s, x], argTypes := #[22, 22] })
    (v : Value) (l : List ByteArray) (n : Nat) (hs : a.eval s = v) (h : W1.ownsRow base 9 1 v n (svs l)) (hl : n ≤ 100000) (ad : Addr) (news : List ByteArray) (m cap : Nat) (hx : a.eval x = .slice (some ad) m cap) (hm : news.length = m) (hml : m ≤ 100000) (hc : ∀ j u, (svs news)[j]? = some u → W1.cell? (ad.add j) = some u)
    (hK : ∀ v' W', W'.ownsRow base 9 1 v' (n + m) (svs (l ++ news)) → W1.grownBy W' v.ownBlock → K (a.put o.dst v') W') :
    if Region.wanted o (yielded ops a.tmps) = true then Oper.wp Try.prog o a W1 K Q else E := by
  have hw : Region.wanted o (yielded ops a.tmps) = true := by simp [Region.wanted, hgd]
  rw [if_pos hw]
  obtain ⟨i, hi, hz⟩ : ∃ i, Try.prog.info? 9 = some i ∧ (i.zero, i.size, i.bytes) = (some (.string ⟨#[]⟩), 1, 16) :=
    Option.map_eq_some_iff.1 (show (Try.prog.info? 9).map (fun i => (i.zero, i.size, i.bytes)) = some (some (.string ⟨#[]⟩), 1, 16) by kernel_rfl)
  simp only [Prod.mk.injEq] at hz
  obtain ⟨h1, h2, h3⟩ := hz
  refine wp_append_own (P := Try.prog) W1 s x 22 ho base 9 i _ 1 16 Try.underlying22 hi h1 h2 h3 rfl (by decide) v n (svs l) hs h ad m cap (svs news) hx (by rw [svs_length, hm, Nat.mul_one]) hc (one_svs news) (by unfold maxLen; omega) (by omega) hbase ?_
  intro v' W' hown hg _
  refine hK v' W' ?_ hg
  unfold svs at hown ⊢
  rw [List.map_append]
  exact hown

/-- Nothing onto a row, as a step of a region that draws. -/
theorem step_none {ops : Array Oper} {o : Oper} {a : Act} {K : Act → World → Prop} {Q : Exit → Act → World → Prop} {E : Prop} {W1 : World} (base : Nat) (_hbase : base ≤ W1.heap.size) (hgd : o.guard = none) (s x : Operand) (ho : o.op = .call { callee := .builtin .append, args := #[s, x], argTypes := #[22, 22] })
    (v : Value) (l : List ByteArray) (n : Nat) (hs : a.eval s = v) (h : W1.ownsRow base 9 1 v n (svs l)) (_hl : n ≤ 100000) (hx : a.eval x = .slice none 0 0)
    (hK : ∀ v' W', W'.ownsRow base 9 1 v' n (svs l) → W1.grownBy W' v.ownBlock → K (a.put o.dst v') W') :
    if Region.wanted o (yielded ops a.tmps) = true then Oper.wp Try.prog o a W1 K Q else E := by
  have hw : Region.wanted o (yielded ops a.tmps) = true := by simp [Region.wanted, hgd]
  rw [if_pos hw]
  obtain ⟨i, hi⟩ : ∃ i, Try.prog.info? 9 = some i := Option.isSome_iff_exists.1 (by kernel_rfl)
  have hrun := run_append_owned_none (P := Try.prog) (w := W1) base 22 o.type 9 i 1 Try.underlying22 hi v n (svs l) h
  unfold Oper.wp
  simp [execOp, ho, resolve, invoke, builtin, hs, hx, hrun, Result.andThen]
  exact hK v W1 h ⟨rfl, rfl, rfl, Nat.le_refl _, fun _ _ _ => rfl⟩

/-- The entry that is put among the others lies in a row of its own. -/
def OneS (W : World) (p : Nat) (s : ByteArray) : Prop := W.heap[p]? = some (.cells #[.string s] 9 (0, 0))

theorem OneS.cells {W : World} {p : Nat} {s : ByteArray} (h : OneS W p s) : ∀ j u, (svs [s])[j]? = some u → W.cell? ((⟨p, 0, none⟩ : Addr).add j) = some u := by
  intro j u hj
  have : j = 0 := by
    have := (List.getElem?_eq_some_iff.1 hj).1
    simpa [svs] using this
  subst this
  simp [svs] at hj
  subst hj
  show W.cell? ⟨p, 0, none⟩ = _
  rw [cell_of_row _ _ _ _ _ _ h]
  rfl

/-- A row under way, beside what the walk reads. -/
structure RW (w W : World) (n : No) (a : Option Addr) (c : Nat) (a' : Option Addr) (c' : Nat) (v : Value) (l : List ByteArray) (wr : World) : Prop where
  own : wr.ownsRow W.heap.size 9 1 v l.length (svs l)
  bel : Below W.heap.size W wr
  nq : Nq w n a c a' c' wr

theorem RW.grow {w W : World} {n : No} {a : Option Addr} {c : Nat} {a' : Option Addr} {c' : Nat} {v v' : Value} {l l' : List ByteArray} {wr w' : World} (h : RW w W n a c a' c' v l wr) (hq : Nq w n a c a' c' W) (hg : wr.grownBy w' v.ownBlock) {m : Nat} (hm : m = l'.length) (ho : w'.ownsRow W.heap.size 9 1 v' m (svs l')) : RW w W n a c a' c' v' l' w' := by
  subst hm
  have hb : Below W.heap.size W w' := h.bel.grown hg h.bel.size (fun k hk => (h.own.lt k hk).1)
  exact ⟨ho, hb, hq.on hb⟩

theorem RW.alloc {w W : World} {n : No} {a : Option Addr} {c : Nat} {a' : Option Addr} {c' : Nat} {v : Value} {l : List ByteArray} {wr : World} (h : RW w W n a c a' c' v l wr) (o : Obj) : RW w W n a c a' c' v l (wr.alloc o) :=
  ⟨owns_below h.own (below_alloc _ _), h.bel.alloc h.bel.size o, h.nq.on (below_alloc _ _)⟩

theorem RW.first {w W : World} {n : No} {a : Option Addr} {c : Nat} {a' : Option Addr} {c' : Nat} (hq : Nq w n a c a' c' W) : RW w W n a c a' c' (.slice (some ⟨W.heap.size, 0, none⟩) 0 0) [] (W.drew.alloc (.cells #[] 9)) :=
  ⟨owns_nil_lit W.drew _, (below_drew W).alloc (Nat.le_refl _) _, (hq.on (below_drew W)).on (below_alloc _ _)⟩

theorem RW.second {w W : World} {n : No} {a : Option Addr} {c : Nat} {a' : Option Addr} {c' : Nat} (hq : Nq w n a c a' c' W) (s : ByteArray) : RW w W n a c a' c' (.slice (some ⟨W.heap.size + 1, 0, none⟩) 0 0) [] ((W.drew.alloc (.cells #[.string s] 9)).alloc (.cells #[] 9)) ∧ OneS ((W.drew.alloc (.cells #[.string s] 9)).alloc (.cells #[] 9)) W.heap.size s := by
  have B1 := below_alloc W.drew (.cells #[.string s] 9)
  have B2 := below_alloc (W.drew.alloc (.cells #[.string s] 9)) (.cells #[] 9)
  have z : (W.drew.alloc (.cells #[.string s] 9)).heap.size = W.heap.size + 1 := by simp
  refine ⟨⟨?_, below_on (below_drew W) (below_on B1 B2), ((hq.on (below_drew W)).on B1).on B2⟩, ?_⟩
  · have := owns_nil_lit (W.drew.alloc (.cells #[.string s] 9)) 9
    rw [z] at this
    exact owns_base this (by omega)
  · unfold OneS
    rw [B2.block _ (by simp)]
    exact heap_alloc_last W.drew _

theorem OneS.grow {W W' : World} {p : Nat} {s : ByteArray} {v : Value} (h : OneS W p s) (hg : W.grownBy W' v.ownBlock) (hne : v.ownBlock ≠ some p) : OneS W' p s := by
  unfold OneS at *
  rw [hg.block p (Array.getElem?_eq_some_iff.1 h).1 (fun e => hne e.symm)]
  exact h

theorem OneS.last (W : World) (s : ByteArray) : OneS (W.alloc (.cells #[.string s] 9)) W.heap.size s := heap_alloc_last _ _

theorem two_blocks (w : World) (x y : Obj) : ((w.alloc x).alloc y).heap[w.heap.size]? = some x ∧ ((w.alloc x).alloc y).heap[w.heap.size + 1]? = some y ∧ Below w.heap.size w ((w.alloc x).alloc y) := by
  have B := below_alloc (w.alloc x) y
  refine ⟨?_, ?_, below_on (below_alloc w x) B⟩
  · rw [B.block _ (by simp)]; exact heap_alloc_last _ _
  · have := heap_alloc_last (w.alloc x) y
    rw [show (w.alloc x).heap.size = w.heap.size + 1 by simp] at this
    exact this

theorem OneS.next (W : World) (s : ByteArray) : OneS ((W.drew.alloc (.cells #[] 9)).alloc (.cells #[.string s] 9)) (W.heap.size + 1) s := by
  have := heap_alloc_last (W.drew.alloc (.cells #[] 9)) (.cells #[.string s] 9)
  rw [show (W.drew.alloc (.cells #[] 9)).heap.size = W.heap.size + 1 by simp] at this
  exact this

set_option maxRecDepth 100000 in
set_option maxHeartbeats 2000000 in
theorem halves_walk {n : No} {a : Option Addr} {c : Nat} {a' : Option Addr} {c' : Nat} {w : World} (hr : NR w n a c a' c') (hnil : a = none → c = 0) (s : ByteArray) :
    Calls Try.prog 7 #[nodeV n a c a' c', .string s] w fun e w' => e = .returned (.bool true) ∧ Below w.heap.size w w' := by
  have HN : Hid (Nq w n a c a' c' (w.alloc (.cells #[.bool n.leaf, .slice a n.recs.length c, .slice a' n.kids.length c'] 25))) := Nq.new hr _
  have hcap : n.recs.length ≤ c := by have := hr.recs.1; rwa [svs_length] at this
  have hcm := hr.recs.2.1
  unfold maxLen at hcm
  have HR : Hid (NR w n a c a' c') := hr
  clear hr
  go_enter Try.func7, Try.ntmps7
  unfold nodeV
  go_wp2_with fail
  refine (awake_walk _).mono ?_
  rintro e w1 ⟨rfl, B1⟩
  have HN1 : Hid (Nq w n a c a' c' w1) := HN.out.on B1
  have c0 := HN1.out.bx.c0
  have c1 := HN1.out.bx.c1
  have c2 := HN1.out.bx.c2
  have xl := HN1.out.bx.lt
  clear HN B1
  go_wp2_with fail
  refine (great_walk (n := n) HN1.out.nr).mono ?_
  rintro e w2 ⟨rfl, B2⟩
  have HN2 : Hid (Nq w n a c a' c' w2) := HN1.out.on B2
  clear c0 c1 c2 xl HN1 B2
  have c0 := HN2.out.bx.c0
  have c1 := HN2.out.bx.c1
  have c2 := HN2.out.bx.c2
  have xl := HN2.out.bx.lt
  cases hg : greatB n
  · have hsm := small_of_great hg
    go_wp2_with fail
    refine (right_walk (n := n) HN2.out.nr hsm).mono ?_
    rintro e w3 ⟨rfl, B3⟩
    have HN3 : Hid (Nq w n a c a' c' w3) := HN2.out.on B3
    clear c0 c1 c2 xl HN2 B3
    have c0 := HN3.out.bx.c0
    have c1 := HN3.out.bx.c1
    have c2 := HN3.out.bx.c2
    have xl := HN3.out.bx.lt
    cases hrt : (n.shaped && decide (n.size ≤ 1024))
    · go_wp2
      go_ret
      exact ⟨rfl, HN3.out.bx.below⟩
    rw [Bool.and_eq_true, decide_eq_true_eq] at hrt
    obtain ⟨hshp, hsz⟩ := hrt
    by_cases hs1 : s.size < 1
    · have hs1' : (s.size : Int) < 1 := by omega
      go_wp2
      go_ret
      exact ⟨rfl, HN3.out.bx.below⟩
    have hs1' : (1 : Int) ≤ (s.size : Int) := by omega
    by_cases hs2 : 400 < s.size
    · have hs2' : (400 : Int) < (s.size : Int) := by omega
      go_wp2
      go_ret
      exact ⟨rfl, HN3.out.bx.below⟩
    have hs2' : (s.size : Int) ≤ 400 := by omega
    cases hlf : n.leaf
    · rw [hlf] at c0
      go_wp2
      go_ret
      exact ⟨rfl, HN3.out.bx.below⟩
    have HLF : Hid (n.leaf = true) := hlf
    have hri : risesB n.recs = true := by rw [shaped_eq, Bool.and_eq_true] at hshp; exact hshp.1
    have HF := find_walk (n := n) (a := a) (c := c) (a' := a') (c' := c') HN3.out.nr hsm.recs s
    rw [count_lt hri s] at HF
    have HFH := hid HF
    clear HF
    unfold nodeV at HFH
    rw [hlf] at c0 HFH
    clear hlf
    go_wp2_with fail
    refine HFH.out.mono ?_
    rintro e w4 ⟨rfl, B4⟩
    have HN4 : Hid (Nq w n a c a' c' w4) := HN3.out.on B4
    clear c0 c1 c2 xl HN3 B4 HFH
    have c1 := HN4.out.bx.c1
    have xl := HN4.out.bx.lt
    cases hth : isAt n.recs s (firstN n.recs s)
    · have HP : Hid (risesB (insL n.recs s) = true) := rises_ins hri s (by omega) (by omega) hth
      have hfn := firstN_le n.recs s
      have h1 := (great_small hg).1
      have hins : insL n.recs s = n.recs.take (firstN n.recs s) ++ [s] ++ n.recs.drop (firstN n.recs s) := rfl
      obtain ⟨A, hA⟩ : ∃ A, Hid (firstN n.recs s = A) := ⟨_, rfl⟩
      rw [hA.out] at hfn hth hins ⊢
      have HINS : Hid (insL n.recs s = n.recs.take A ++ [s] ++ n.recs.drop A) := hins
      clear hins
      have F1 : Hid _ := RW.first HN4.out
      have F2 := RW.second HN4.out s
      have F2a : Hid (RW w w4 n a c a' c' (.slice (some ⟨w4.heap.size + 1, 0, none⟩) 0 0) [] ((w4.drew.alloc (.cells #[.string s] 9)).alloc (.cells #[] 9))) := F2.1
      have F2b : Hid (OneS ((w4.drew.alloc (.cells #[.string s] 9)).alloc (.cells #[] 9)) w4.heap.size s) := F2.2
      clear F2
      have la : Hid ((n.recs.take A).length = A) := by show (n.recs.take A).length = A; simp; omega
      have lb : Hid ((n.recs.drop A).length = n.recs.length - A) := List.length_drop
      have i1 : (A : Int) ≤ (c : Int) := by omega
      have i2 : (A : Int) ≤ (n.recs.length : Int) := by omega
      have i3 : (n.recs.length : Int) ≤ (c : Int) := by omega
      have hal : ∀ (W : World) (ob : Obj) (o : Nat), w.heap.size < W.heap.size → (W.alloc ob).cell? ⟨w.heap.size, o, none⟩ = W.cell? ⟨w.heap.size, o, none⟩ := fun W ob o h => (below_alloc W ob).cell h
      have xl1 : w.heap.size < w4.heap.size + 1 := by omega
      have xl2 : w.heap.size < w4.heap.size + 1 + 1 := by omega
      by_cases hne : 0 < n.recs.length
      · obtain ⟨b, o, rfl, hb, hc⟩ := HR.out.recs.str 0 hne
        clear hc
        have T1 : Hid (∀ W : World, Nq w n (some ⟨b, o, none⟩) c a' c' W → ∀ j u, (svs (n.recs.take A))[j]? = some u → W.cell? ((⟨b, o, none⟩ : Addr).add j) = some u) := fun W hq => by
          have := (hq.nr.recs.take A).cells
          unfold svs at this ⊢
          rwa [← List.map_take] at this
        have T2 : Hid (∀ W : World, Nq w n (some ⟨b, o, none⟩) c a' c' W → ∀ j u, (svs (n.recs.drop A))[j]? = some u → W.cell? ((⟨b, o + A, none⟩ : Addr).add j) = some u) := fun W hq => by
          have := (hq.nr.recs.drop A).cells
          unfold svs at this ⊢
          rwa [← List.map_drop] at this
        by_cases hcA : c = A
        · subst hcA
          have lb0 : Hid ((n.recs.drop c).length = 0) := by show _ = 0; rw [lb.out]; omega
          have T2 : Hid (∀ W : World, Nq w n (some ⟨b, o, none⟩) c a' c' W → ∀ j u, (svs (n.recs.drop c))[j]? = some u → W.cell? ((⟨b, o, none⟩ : Addr).add j) = some u) := fun W _ j u hj => by
            rw [List.eq_nil_of_length_eq_zero lb0.out] at hj
            simp [svs] at hj
          go_wp2
          go_region_held_law (fun w' => w'.cell? ⟨w.heap.size, 1, none⟩ = some (.slice (some ⟨b, o, none⟩) n.recs.length c)) (simp [*]) (first
            | (refine step_strs w4.heap.size (F1.out).bel.size rfl (.tmp 43) (.tmp 47) rfl (.slice (some ⟨w4.heap.size, 0, none⟩) 0 0) [] 0 ?_ (F1.out).own (by omega) ⟨b, o, none⟩ (n.recs.take c) c c ?_ la.out (by omega) (T1.out _ (F1.out).nq) ?_
               · first | (simp [Act.eval]; done) | (simp [Act.eval, Act.put]; done)
               · first | (simp [Act.eval]; done) | (simp [Act.eval, Act.put]; done)
               intro v5 w5 hown hgr
               have R5 := (F1.out).grow HN4.out hgr (l' := n.recs.take c) (by rw [la.out, Nat.zero_add]) hown
               have HR5 : Hid (RW w w4 n (some ⟨b, o, none⟩) c a' c' v5 (n.recs.take c) w5) := R5
               have k5 := R5.nq.bx.c1
               have kl5 := R5.nq.bx.lt
               clear R5 hown hgr)
            | (refine step_strs w4.heap.size (F1.out.alloc (.cells #[.string s] 9)).bel.size rfl (.tmp 43) (.tmp 47) rfl (.slice (some ⟨w4.heap.size, 0, none⟩) 0 0) [] 0 ?_ (F1.out.alloc (.cells #[.string s] 9)).own (by omega) ⟨b, o, none⟩ (n.recs.take c) c c ?_ la.out (by omega) (T1.out _ (F1.out.alloc (.cells #[.string s] 9)).nq) ?_
               · first | (simp [Act.eval]; done) | (simp [Act.eval, Act.put]; done)
               · first | (simp [Act.eval]; done) | (simp [Act.eval, Act.put]; done)
               intro v5 w5 hown hgr
               have R5 := (F1.out.alloc (.cells #[.string s] 9)).grow HN4.out hgr (l' := n.recs.take c) (by rw [la.out, Nat.zero_add]) hown
               have HO5 : Hid (OneS w5 (w4.heap.size + 1) s) := (OneS.next w4 s).grow hgr (by simp [Value.ownBlock])
               have HR5 : Hid (RW w w4 n (some ⟨b, o, none⟩) c a' c' v5 (n.recs.take c) w5) := R5
               have k5 := R5.nq.bx.c1
               have kl5 := R5.nq.bx.lt
               clear R5 hown hgr)
            | (refine step_strs w4.heap.size (F2a.out).bel.size rfl (.tmp 43) (.tmp 47) rfl (.slice (some ⟨w4.heap.size + 1, 0, none⟩) 0 0) [] 0 ?_ (F2a.out).own (by omega) ⟨b, o, none⟩ (n.recs.take c) c c ?_ la.out (by omega) (T1.out _ (F2a.out).nq) ?_
               · first | (simp [Act.eval]; done) | (simp [Act.eval, Act.put]; done)
               · first | (simp [Act.eval]; done) | (simp [Act.eval, Act.put]; done)
               intro v5 w5 hown hgr
               have R5 := (F2a.out).grow HN4.out hgr (l' := n.recs.take c) (by rw [la.out, Nat.zero_add]) hown
               have HO5 : Hid (OneS w5 w4.heap.size s) := F2b.out.grow hgr (by simp [Value.ownBlock])
               have HR5 : Hid (RW w w4 n (some ⟨b, o, none⟩) c a' c' v5 (n.recs.take c) w5) := R5
               have k5 := R5.nq.bx.c1
               have kl5 := R5.nq.bx.lt
               clear R5 hown hgr)
            | (refine step_strs w4.heap.size (HR5.out).bel.size rfl (.tmp 48) (.tmp 50) rfl v5 (n.recs.take c) (n.recs.take c).length ?_ (HR5.out).own (by rw [la.out]; omega) ⟨w4.heap.size + 1, 0, none⟩ [s] 1 1 ?_ rfl (by omega) (HO5.out).cells ?_
               · first | (simp [Act.eval]; done) | (simp [Act.eval, Act.put]; done)
               · first | (simp [Act.eval]; done) | (simp [Act.eval, Act.put]; done)
               intro v6 w6 hown hgr
               have R6 := (HR5.out).grow HN4.out hgr (l' := n.recs.take c ++ [s]) (by rw [List.length_append]; rfl) hown
               have HR6 : Hid (RW w w4 n (some ⟨b, o, none⟩) c a' c' v6 (n.recs.take c ++ [s]) w6) := R6
               have k6 := R6.nq.bx.c1
               have kl6 := R6.nq.bx.lt
               clear R6 hown hgr)
            | (refine step_strs w4.heap.size (HR5.out).bel.size rfl (.tmp 48) (.tmp 50) rfl v5 (n.recs.take c) (n.recs.take c).length ?_ (HR5.out).own (by rw [la.out]; omega) ⟨w4.heap.size, 0, none⟩ [s] 1 1 ?_ rfl (by omega) (HO5.out).cells ?_
               · first | (simp [Act.eval]; done) | (simp [Act.eval, Act.put]; done)
               · first | (simp [Act.eval]; done) | (simp [Act.eval, Act.put]; done)
               intro v6 w6 hown hgr
               have R6 := (HR5.out).grow HN4.out hgr (l' := n.recs.take c ++ [s]) (by rw [List.length_append]; rfl) hown
               have HR6 : Hid (RW w w4 n (some ⟨b, o, none⟩) c a' c' v6 (n.recs.take c ++ [s]) w6) := R6
               have k6 := R6.nq.bx.c1
               have kl6 := R6.nq.bx.lt
               clear R6 hown hgr)
            | (refine step_strs w4.heap.size (HR5.out.alloc (.cells #[.string s] 9)).bel.size rfl (.tmp 48) (.tmp 50) rfl v5 (n.recs.take c) (n.recs.take c).length ?_ (HR5.out.alloc (.cells #[.string s] 9)).own (by rw [la.out]; omega) ⟨w5.heap.size, 0, none⟩ [s] 1 1 ?_ rfl (by omega) (OneS.last w5 s).cells ?_
               · first | (simp [Act.eval]; done) | (simp [Act.eval, Act.put]; done)
               · first | (simp [Act.eval]; done) | (simp [Act.eval, Act.put]; done)
               intro v6 w6 hown hgr
               have R6 := (HR5.out.alloc (.cells #[.string s] 9)).grow HN4.out hgr (l' := n.recs.take c ++ [s]) (by rw [List.length_append]; rfl) hown
               have HR6 : Hid (RW w w4 n (some ⟨b, o, none⟩) c a' c' v6 (n.recs.take c ++ [s]) w6) := R6
               have k6 := R6.nq.bx.c1
               have kl6 := R6.nq.bx.lt
               clear R6 hown hgr)
            | (refine step_strs w4.heap.size HR6.out.bel.size rfl (.tmp 51) (.tmp 55) rfl v6 (n.recs.take c ++ [s]) (n.recs.take c ++ [s]).length ?_ HR6.out.own (by rw [List.length_append, la.out]; simp; omega) ⟨b, o, none⟩ (n.recs.drop c) 0 0 ?_ lb0.out (by omega) (T2.out _ HR6.out.nq) ?_
               · first | (simp [Act.eval]; done) | (simp [Act.eval, Act.put]; done)
               · first | (simp [Act.eval]; done) | (simp [Act.eval, Act.put]; done)
               intro v7 w7 hown hgr
               have R7 := HR6.out.grow HN4.out hgr (l' := insL n.recs s) (by rw [HINS.out, List.length_append, lb0.out]) (by rw [HINS.out]; exact hown)
               obtain ⟨x7, q7, rfl, _, _, _⟩ := owns_rd R7.own
               have HR7 : Hid (RW w w4 n (some ⟨b, o, none⟩) c a' c' (.slice x7 (insL n.recs s).length q7) (insL n.recs s) w7) := R7
               have k7 := R7.nq.bx.c1
               have kl7 := R7.nq.bx.lt
               clear R7 hown hgr))
          all_goals
            obtain ⟨x7', q7', e7, rd7, _, _⟩ := owns_rd HR7.out.own
            cases e7
            have HB7 : Hid (Below w.heap.size w w7) := HR7.out.nq.bx.below
            have HLL : Hid ((insL n.recs s).length = n.recs.length + 1) := ins_length n.recs s
            have HLW : Hid (weigh (insL n.recs s) = weigh n.recs + (4 + s.size)) := ins_weigh n.recs s
            have HLM : Hid (∀ x ∈ insL n.recs s, x.size ≤ 400) := fun x hx => (((rises_iff _).1 HP.out).1 x hx).2
            have HNS : Hid (3 + weigh n.recs ≤ 1024) := (by have := hsz; unfold No.size at this; show 3 + weigh n.recs ≤ 1024; omega)
            have hLlen : (insL n.recs s).length ≤ 1000 := (by rw [HLL.out]; omega)
            have HQ : Hid (Nq w7 ⟨true, insL n.recs s, []⟩ x7 q7 none 0 (w7.alloc (.cells #[.bool true, .slice x7 (insL n.recs s).length q7, .slice none 0 0] 25))) := Nq.new (n := ⟨true, insL n.recs s, []⟩) ⟨rd7, rd_nil _⟩ _
            clear rd7 HR7 HN4 HR hth hri hshp hsz hg
            obtain ⟨m, hm⟩ : ∃ m : No, Hid (m = ⟨true, insL n.recs s, []⟩) := ⟨_, rfl⟩
            rw [← hm.out] at HQ
            have hml : m.leaf = true := (by rw [hm.out])
            have hmr : m.recs = insL n.recs s := (by rw [hm.out])
            have hmk : m.kids = [] := (by rw [hm.out])
            have HMR : Hid (m.recs = insL n.recs s) := hmr
            have HML : Hid (m.leaf = true) := hml
            have HMK : Hid (m.kids = []) := hmk
            have hms : m.small := ⟨by rw [hmr]; exact hLlen, by rw [hmk]; exact Nat.zero_le _, fun x hx => by rw [hmr] at hx; have := HLM.out x hx; omega⟩
            have HSH : Hid (m.shaped = true) := (by show m.shaped = true; rw [hm.out, leaf_shaped]; exact HP.out)
            have HMS : Hid (m.size = 3 + weigh (insL n.recs s)) := (by show m.size = _; unfold No.size; rw [hmr, hmk]; rfl)
            have HSZ := hid (size_walk (n := m) HQ.out.nr hms)
            have HRT := hid (fun (W : World) (hq : Nq w7 m x7 q7 none 0 W) => right_walk (n := m) hq.nr hms)
            unfold nodeV at HSZ HRT
            rw [hml, hmk] at HSZ HRT
            have b0 := HQ.out.bx.c0
            have b1 := HQ.out.bx.c1
            have b2 := HQ.out.bx.c2
            rw [hml] at b0
            rw [hmr] at b1
            rw [hmk] at b2
            rw [hmr] at HSZ HRT
            rw [List.length_nil] at HSZ HRT b2
            clear hm hml hmr hmk
            generalize insL n.recs s = L at *
            have HBX := hid (And.intro b0 (And.intro b1 b2))
            clear b0 b1 b2
            go_wp2_with fail
            generalize w7.alloc (.cells #[.bool true, .slice x7 L.length q7, .slice none 0 0] 25) = W8 at *
            refine HSZ.out.mono ?_
            rintro e w8 ⟨rfl, B8⟩
            have HQ8 : Hid (Nq w7 m x7 q7 none 0 w8) := HQ.out.on B8
            have xl8 := HQ8.out.bx.lt
            obtain ⟨b0, b1, b2⟩ := HBX.out
            have d0 : w8.cell? ⟨w7.heap.size, 0, none⟩ = some (.bool true) := (by rw [B8.cell HQ.out.bx.lt]; exact b0)
            have d1 : w8.cell? ⟨w7.heap.size, 1, none⟩ = some (.slice x7 L.length q7) := (by rw [B8.cell HQ.out.bx.lt]; exact b1)
            have d2 : w8.cell? ⟨w7.heap.size, 2, none⟩ = some (.slice none 0 0) := (by rw [B8.cell HQ.out.bx.lt]; exact b2)
            clear b0 b1 b2 HBX B8 HSZ HQ
            by_cases hfit : m.size ≤ 1024
            · have hfit' : (m.size : Int) ≤ 1024 := by omega
              have HRT8 := hid (HRT.out w8 HQ8.out)
              rw [HSH.out, decide_eq_true hfit] at HRT8
              go_wp2_with fail
              refine HRT8.out.mono ?_
              rintro e w9 ⟨rfl, B9⟩
              have HBB := (HQ8.out.on B9).bx.below
              clear HRT8
              go_wp2
              go_ret
              exact ⟨rfl, below_on HB7.out HBB⟩
            · have hfit' : (1024 : Int) < (m.size : Int) := by omega
              have hl2 : 2 ≤ L.length := by
                have h3 := HMS.out
                have h4 := HLW.out
                rw [HLL.out]
                have h5 : n.recs.length ≠ 0 := fun e0 => by
                  have : n.recs = [] := List.eq_nil_of_length_eq_zero e0
                  rw [this] at h4
                  have : weigh [] = 0 := rfl
                  omega
                omega
              have hcl := cutN_le 4 0 L (by omega)
              have hgp : m.gap = 0 := by unfold No.gap; rw [HML.out]; rfl
              have hcut : m.cut = cutN 4 0 L := by rw [cut_leaf HML.out, HMR.out]
              obtain ⟨f1, f2⟩ := halves_fit (l := L) (by rw [HLW.out]; have := HNS.out; omega) HLM.out hl2
              obtain ⟨sp, hsp⟩ : ∃ sp, L[cutN 4 0 L]? = some sp := ⟨_, List.getElem?_eq_getElem (by omega)⟩
              have hsk : m.recs[m.cut]? = some sp := by rw [hcut, HMR.out]; exact hsp
              have HSP := hid (split_walk (n := m) HQ8.out.nr hms (by rw [hgp, HMR.out]; omega) (fun h => by rw [HML.out] at h; cases h) _ hsk)
              have elo : m.lo m.cut = ⟨true, L.take (cutN 4 0 L), []⟩ := by unfold No.lo; rw [HML.out, HMR.out, hcut]; rfl
              have ehi : m.hi m.cut = ⟨true, L.drop (cutN 4 0 L), []⟩ := by unfold No.hi; rw [HML.out, HMR.out, hcut, hgp]; rfl
              unfold nodeV at HSP
              rw [elo, ehi, HML.out, HMR.out, HMK.out, List.length_nil] at HSP
              have g1 : Hid (risesB (L.take (cutN 4 0 L)) = true) := rises_take HP.out _
              have g2 : Hid (risesB (L.drop (cutN 4 0 L)) = true) := rises_drop HP.out _
              have g3 : Hid ((L.drop (cutN 4 0 L))[0]? = some sp) := by show _ = _; rw [List.getElem?_drop, Nat.add_zero]; exact hsp
              have g4 : 0 < (L.take (cutN 4 0 L)).length := by simp; omega
              have g5 : 0 < (L.drop (cutN 4 0 L)).length := by simp; omega
              have g6 : Hid (∀ x ∈ L.take (cutN 4 0 L), x.size ≤ 400) := fun x hx => HLM.out x (List.mem_of_mem_take hx)
              have g7 : Hid (∀ x ∈ L.drop (cutN 4 0 L), x.size ≤ 400) := fun x hx => HLM.out x (List.mem_of_mem_drop hx)
              have g8 : (L.take (cutN 4 0 L)).length ≤ 1000 := by simp; omega
              have g9 : (L.drop (cutN 4 0 L)).length ≤ 1000 := by simp; omega
              clear hsk hsp elo ehi hcut hgp hcl HRT
              generalize L.take (cutN 4 0 L) = L1 at *
              generalize L.drop (cutN 4 0 L) = L2 at *
              go_wp2_with fail
              refine HSP.out.mono ?_
              rintro e w9 ⟨r1, k1, r2, k2, rfl, HV⟩
              clear HSP
              obtain ⟨y1, t1, y2, t2, y3, t3, y4, t4, rfl, rfl, rfl, rfl⟩ := HV.slices
              obtain ⟨u1, v1, e1, rd1, _, _⟩ := owns_rd HV.a1
              obtain ⟨u2, v2, e2, rd2, _, _⟩ := owns_rd HV.a2
              obtain ⟨u3, v3, e3, rd3, _, _⟩ := owns_rd HV.b1
              obtain ⟨u4, v4, e4, rd4, _, _⟩ := owns_rd HV.b2
              cases e1
              cases e2
              cases e3
              cases e4
              have N1 : Hid (NR w9 ⟨true, L1, []⟩ y1 t1 y2 t2) := ⟨rd1, rd2⟩
              have N2 : Hid (NR w9 ⟨true, L2, []⟩ y3 t3 y4 t4) := ⟨rd3, rd4⟩
              have H9 : Hid (Below w.heap.size w w9) := below_on HB7.out (below_on HQ8.out.bx.below HV.below)
              have M1 : (No.mk true L1 []).small := ⟨g8, Nat.zero_le _, fun x hx => by have := g6.out x hx; omega⟩
              have M2 : (No.mk true L2 []).small := ⟨g9, Nat.zero_le _, fun x hx => by have := g7.out x hx; omega⟩
              have Q1 := hid (fun (W : World) (hb : Below w9.heap.size w9 W) => right_walk (N1.out.below hb) M1)
              have Q2 := hid (fun (W : World) (hb : Below w9.heap.size w9 W) => right_walk (N2.out.below hb) M2)
              have z1 : ((No.mk true L1 []).shaped && decide ((No.mk true L1 []).size ≤ 1024)) = true := by
                rw [leaf_shaped, g1.out, Bool.true_and, decide_eq_true_eq]; exact f1
              have z2 : ((No.mk true L2 []).shaped && decide ((No.mk true L2 []).size ≤ 1024)) = true := by
                rw [leaf_shaped, g2.out, Bool.true_and, decide_eq_true_eq]; exact f2
              rw [z1] at Q1
              rw [z2] at Q2
              unfold nodeV at Q1 Q2
              simp only [List.length_nil] at Q1 Q2
              obtain ⟨bb, oo, ey, hbl, hce⟩ := rd3.2.2 0 (.string sp) (by simp [svs, g3.out])
              subst ey
              clear rd1 rd2 rd3 rd4 HV z1 z2 d0 d1 d2
              have P2 := two_blocks w9 (.cells #[.bool true, .slice y1 L1.length t1, .slice y2 0 t2] 25) (.cells #[.bool true, .slice (some ⟨bb, oo, none⟩) L2.length t3, .slice y4 0 t4] 25)
              have HP2 := hid P2
              clear P2
              go_wp2_with fail
              generalize (w9.alloc (.cells #[.bool true, .slice y1 L1.length t1, .slice y2 0 t2] 25)).alloc (.cells #[.bool true, .slice (some ⟨bb, oo, none⟩) L2.length t3, .slice y4 0 t4] 25) = W9 at *
              obtain ⟨p9, p11, BW⟩ := HP2.out
              have hz11 := (Array.getElem?_eq_some_iff.1 p11).1
              refine (Q1.out _ BW).mono ?_
              rintro e w10 ⟨rfl, B10⟩
              have q9 := (B10.block _ (Array.getElem?_eq_some_iff.1 p9).1).trans p9
              have q11 := (B10.block _ (Array.getElem?_eq_some_iff.1 p11).1).trans p11
              obtain ⟨r90, r91, r92⟩ := node_cells q9
              obtain ⟨r110, r111, r112⟩ := node_cells q11
              have B11 := below_on BW B10
              have hz10 := (Array.getElem?_eq_some_iff.1 q11).1
              have HQ9 := hid (And.intro q9 q11)
              clear p9 p11 q9 q11 B10 BW HP2 hz11
              go_wp2_with fail
              refine (Q2.out _ B11).mono ?_
              rintro e w11 ⟨rfl, B12⟩
              have s9 := (B12.block _ (Array.getElem?_eq_some_iff.1 HQ9.out.1).1).trans HQ9.out.1
              have s11 := (B12.block _ (Array.getElem?_eq_some_iff.1 HQ9.out.2).1).trans HQ9.out.2
              clear r90 r91 r92 r110 r111 r112 hz10 HQ9
              have hz12 := (Array.getElem?_eq_some_iff.1 s11).1
              obtain ⟨r90, r91, r92⟩ := node_cells s9
              obtain ⟨r110, r111, r112⟩ := node_cells s11
              have hcs : w11.cell? ⟨bb, oo, none⟩ = some (.string sp) := by
                rw [B12.cell (Nat.lt_of_lt_of_le hbl B11.size), B11.cell hbl]
                exact hce
              have HF := hid (below_on H9.out (below_on B11 B12))
              have g4' : (0 : Int) < (L1.length : Int) := by omega
              have g5' : (0 : Int) < (L2.length : Int) := by omega
              clear s9 s11 B11 B12 hce
              go_wp2
              go_ret
              exact ⟨rfl, HF.out⟩
        · go_wp2
          go_region_held_law (fun w' => w'.cell? ⟨w.heap.size, 1, none⟩ = some (.slice (some ⟨b, o, none⟩) n.recs.length c)) (simp [*]) (first
            | (refine step_strs w4.heap.size (F1.out).bel.size rfl (.tmp 43) (.tmp 47) rfl (.slice (some ⟨w4.heap.size, 0, none⟩) 0 0) [] 0 ?_ (F1.out).own (by omega) ⟨b, o, none⟩ (n.recs.take A) A c ?_ la.out (by omega) (T1.out _ (F1.out).nq) ?_
               · first | (simp [Act.eval]; done) | (simp [Act.eval, Act.put]; done)
               · first | (simp [Act.eval]; done) | (simp [Act.eval, Act.put]; done)
               intro v5 w5 hown hgr
               have R5 := (F1.out).grow HN4.out hgr (l' := n.recs.take A) (by rw [la.out, Nat.zero_add]) hown
               have HR5 : Hid (RW w w4 n (some ⟨b, o, none⟩) c a' c' v5 (n.recs.take A) w5) := R5
               have k5 := R5.nq.bx.c1
               have kl5 := R5.nq.bx.lt
               clear R5 hown hgr)
            | (refine step_strs w4.heap.size (F1.out.alloc (.cells #[.string s] 9)).bel.size rfl (.tmp 43) (.tmp 47) rfl (.slice (some ⟨w4.heap.size, 0, none⟩) 0 0) [] 0 ?_ (F1.out.alloc (.cells #[.string s] 9)).own (by omega) ⟨b, o, none⟩ (n.recs.take A) A c ?_ la.out (by omega) (T1.out _ (F1.out.alloc (.cells #[.string s] 9)).nq) ?_
               · first | (simp [Act.eval]; done) | (simp [Act.eval, Act.put]; done)
               · first | (simp [Act.eval]; done) | (simp [Act.eval, Act.put]; done)
               intro v5 w5 hown hgr
               have R5 := (F1.out.alloc (.cells #[.string s] 9)).grow HN4.out hgr (l' := n.recs.take A) (by rw [la.out, Nat.zero_add]) hown
               have HO5 : Hid (OneS w5 (w4.heap.size + 1) s) := (OneS.next w4 s).grow hgr (by simp [Value.ownBlock])
               have HR5 : Hid (RW w w4 n (some ⟨b, o, none⟩) c a' c' v5 (n.recs.take A) w5) := R5
               have k5 := R5.nq.bx.c1
               have kl5 := R5.nq.bx.lt
               clear R5 hown hgr)
            | (refine step_strs w4.heap.size (F2a.out).bel.size rfl (.tmp 43) (.tmp 47) rfl (.slice (some ⟨w4.heap.size + 1, 0, none⟩) 0 0) [] 0 ?_ (F2a.out).own (by omega) ⟨b, o, none⟩ (n.recs.take A) A c ?_ la.out (by omega) (T1.out _ (F2a.out).nq) ?_
               · first | (simp [Act.eval]; done) | (simp [Act.eval, Act.put]; done)
               · first | (simp [Act.eval]; done) | (simp [Act.eval, Act.put]; done)
               intro v5 w5 hown hgr
               have R5 := (F2a.out).grow HN4.out hgr (l' := n.recs.take A) (by rw [la.out, Nat.zero_add]) hown
               have HO5 : Hid (OneS w5 w4.heap.size s) := F2b.out.grow hgr (by simp [Value.ownBlock])
               have HR5 : Hid (RW w w4 n (some ⟨b, o, none⟩) c a' c' v5 (n.recs.take A) w5) := R5
               have k5 := R5.nq.bx.c1
               have kl5 := R5.nq.bx.lt
               clear R5 hown hgr)
            | (refine step_strs w4.heap.size (HR5.out).bel.size rfl (.tmp 48) (.tmp 50) rfl v5 (n.recs.take A) (n.recs.take A).length ?_ (HR5.out).own (by rw [la.out]; omega) ⟨w4.heap.size + 1, 0, none⟩ [s] 1 1 ?_ rfl (by omega) (HO5.out).cells ?_
               · first | (simp [Act.eval]; done) | (simp [Act.eval, Act.put]; done)
               · first | (simp [Act.eval]; done) | (simp [Act.eval, Act.put]; done)
               intro v6 w6 hown hgr
               have R6 := (HR5.out).grow HN4.out hgr (l' := n.recs.take A ++ [s]) (by rw [List.length_append]; rfl) hown
               have HR6 : Hid (RW w w4 n (some ⟨b, o, none⟩) c a' c' v6 (n.recs.take A ++ [s]) w6) := R6
               have k6 := R6.nq.bx.c1
               have kl6 := R6.nq.bx.lt
               clear R6 hown hgr)
            | (refine step_strs w4.heap.size (HR5.out).bel.size rfl (.tmp 48) (.tmp 50) rfl v5 (n.recs.take A) (n.recs.take A).length ?_ (HR5.out).own (by rw [la.out]; omega) ⟨w4.heap.size, 0, none⟩ [s] 1 1 ?_ rfl (by omega) (HO5.out).cells ?_
               · first | (simp [Act.eval]; done) | (simp [Act.eval, Act.put]; done)
               · first | (simp [Act.eval]; done) | (simp [Act.eval, Act.put]; done)
               intro v6 w6 hown hgr
               have R6 := (HR5.out).grow HN4.out hgr (l' := n.recs.take A ++ [s]) (by rw [List.length_append]; rfl) hown
               have HR6 : Hid (RW w w4 n (some ⟨b, o, none⟩) c a' c' v6 (n.recs.take A ++ [s]) w6) := R6
               have k6 := R6.nq.bx.c1
               have kl6 := R6.nq.bx.lt
               clear R6 hown hgr)
            | (refine step_strs w4.heap.size (HR5.out.alloc (.cells #[.string s] 9)).bel.size rfl (.tmp 48) (.tmp 50) rfl v5 (n.recs.take A) (n.recs.take A).length ?_ (HR5.out.alloc (.cells #[.string s] 9)).own (by rw [la.out]; omega) ⟨w5.heap.size, 0, none⟩ [s] 1 1 ?_ rfl (by omega) (OneS.last w5 s).cells ?_
               · first | (simp [Act.eval]; done) | (simp [Act.eval, Act.put]; done)
               · first | (simp [Act.eval]; done) | (simp [Act.eval, Act.put]; done)
               intro v6 w6 hown hgr
               have R6 := (HR5.out.alloc (.cells #[.string s] 9)).grow HN4.out hgr (l' := n.recs.take A ++ [s]) (by rw [List.length_append]; rfl) hown
               have HR6 : Hid (RW w w4 n (some ⟨b, o, none⟩) c a' c' v6 (n.recs.take A ++ [s]) w6) := R6
               have k6 := R6.nq.bx.c1
               have kl6 := R6.nq.bx.lt
               clear R6 hown hgr)
            | (refine step_strs w4.heap.size HR6.out.bel.size rfl (.tmp 51) (.tmp 55) rfl v6 (n.recs.take A ++ [s]) (n.recs.take A ++ [s]).length ?_ HR6.out.own (by rw [List.length_append, la.out]; simp; omega) ⟨b, o + A, none⟩ (n.recs.drop A) (n.recs.length - A) (c - A) ?_ lb.out (by omega) (T2.out _ HR6.out.nq) ?_
               · first | (simp [Act.eval]; done) | (simp [Act.eval, Act.put]; done)
               · first | (simp [Act.eval]; done) | (simp [Act.eval, Act.put]; done)
               intro v7 w7 hown hgr
               have R7 := HR6.out.grow HN4.out hgr (l' := insL n.recs s) (by rw [HINS.out, List.length_append, lb.out]) (by rw [HINS.out]; exact hown)
               obtain ⟨x7, q7, rfl, _, _, _⟩ := owns_rd R7.own
               have HR7 : Hid (RW w w4 n (some ⟨b, o, none⟩) c a' c' (.slice x7 (insL n.recs s).length q7) (insL n.recs s) w7) := R7
               have k7 := R7.nq.bx.c1
               have kl7 := R7.nq.bx.lt
               clear R7 hown hgr))
          all_goals
            obtain ⟨x7', q7', e7, rd7, _, _⟩ := owns_rd HR7.out.own
            cases e7
            have HB7 : Hid (Below w.heap.size w w7) := HR7.out.nq.bx.below
            have HLL : Hid ((insL n.recs s).length = n.recs.length + 1) := ins_length n.recs s
            have HLW : Hid (weigh (insL n.recs s) = weigh n.recs + (4 + s.size)) := ins_weigh n.recs s
            have HLM : Hid (∀ x ∈ insL n.recs s, x.size ≤ 400) := fun x hx => (((rises_iff _).1 HP.out).1 x hx).2
            have HNS : Hid (3 + weigh n.recs ≤ 1024) := (by have := hsz; unfold No.size at this; show 3 + weigh n.recs ≤ 1024; omega)
            have hLlen : (insL n.recs s).length ≤ 1000 := (by rw [HLL.out]; omega)
            have HQ : Hid (Nq w7 ⟨true, insL n.recs s, []⟩ x7 q7 none 0 (w7.alloc (.cells #[.bool true, .slice x7 (insL n.recs s).length q7, .slice none 0 0] 25))) := Nq.new (n := ⟨true, insL n.recs s, []⟩) ⟨rd7, rd_nil _⟩ _
            clear rd7 HR7 HN4 HR hth hri hshp hsz hg
            obtain ⟨m, hm⟩ : ∃ m : No, Hid (m = ⟨true, insL n.recs s, []⟩) := ⟨_, rfl⟩
            rw [← hm.out] at HQ
            have hml : m.leaf = true := (by rw [hm.out])
            have hmr : m.recs = insL n.recs s := (by rw [hm.out])
            have hmk : m.kids = [] := (by rw [hm.out])
            have HMR : Hid (m.recs = insL n.recs s) := hmr
            have HML : Hid (m.leaf = true) := hml
            have HMK : Hid (m.kids = []) := hmk
            have hms : m.small := ⟨by rw [hmr]; exact hLlen, by rw [hmk]; exact Nat.zero_le _, fun x hx => by rw [hmr] at hx; have := HLM.out x hx; omega⟩
            have HSH : Hid (m.shaped = true) := (by show m.shaped = true; rw [hm.out, leaf_shaped]; exact HP.out)
            have HMS : Hid (m.size = 3 + weigh (insL n.recs s)) := (by show m.size = _; unfold No.size; rw [hmr, hmk]; rfl)
            have HSZ := hid (size_walk (n := m) HQ.out.nr hms)
            have HRT := hid (fun (W : World) (hq : Nq w7 m x7 q7 none 0 W) => right_walk (n := m) hq.nr hms)
            unfold nodeV at HSZ HRT
            rw [hml, hmk] at HSZ HRT
            have b0 := HQ.out.bx.c0
            have b1 := HQ.out.bx.c1
            have b2 := HQ.out.bx.c2
            rw [hml] at b0
            rw [hmr] at b1
            rw [hmk] at b2
            rw [hmr] at HSZ HRT
            rw [List.length_nil] at HSZ HRT b2
            clear hm hml hmr hmk
            generalize insL n.recs s = L at *
            have HBX := hid (And.intro b0 (And.intro b1 b2))
            clear b0 b1 b2
            go_wp2_with fail
            generalize w7.alloc (.cells #[.bool true, .slice x7 L.length q7, .slice none 0 0] 25) = W8 at *
            refine HSZ.out.mono ?_
            rintro e w8 ⟨rfl, B8⟩
            have HQ8 : Hid (Nq w7 m x7 q7 none 0 w8) := HQ.out.on B8
            have xl8 := HQ8.out.bx.lt
            obtain ⟨b0, b1, b2⟩ := HBX.out
            have d0 : w8.cell? ⟨w7.heap.size, 0, none⟩ = some (.bool true) := (by rw [B8.cell HQ.out.bx.lt]; exact b0)
            have d1 : w8.cell? ⟨w7.heap.size, 1, none⟩ = some (.slice x7 L.length q7) := (by rw [B8.cell HQ.out.bx.lt]; exact b1)
            have d2 : w8.cell? ⟨w7.heap.size, 2, none⟩ = some (.slice none 0 0) := (by rw [B8.cell HQ.out.bx.lt]; exact b2)
            clear b0 b1 b2 HBX B8 HSZ HQ
            by_cases hfit : m.size ≤ 1024
            · have hfit' : (m.size : Int) ≤ 1024 := by omega
              have HRT8 := hid (HRT.out w8 HQ8.out)
              rw [HSH.out, decide_eq_true hfit] at HRT8
              go_wp2_with fail
              refine HRT8.out.mono ?_
              rintro e w9 ⟨rfl, B9⟩
              have HBB := (HQ8.out.on B9).bx.below
              clear HRT8
              go_wp2
              go_ret
              exact ⟨rfl, below_on HB7.out HBB⟩
            · have hfit' : (1024 : Int) < (m.size : Int) := by omega
              have hl2 : 2 ≤ L.length := by
                have h3 := HMS.out
                have h4 := HLW.out
                rw [HLL.out]
                have h5 : n.recs.length ≠ 0 := fun e0 => by
                  have : n.recs = [] := List.eq_nil_of_length_eq_zero e0
                  rw [this] at h4
                  have : weigh [] = 0 := rfl
                  omega
                omega
              have hcl := cutN_le 4 0 L (by omega)
              have hgp : m.gap = 0 := by unfold No.gap; rw [HML.out]; rfl
              have hcut : m.cut = cutN 4 0 L := by rw [cut_leaf HML.out, HMR.out]
              obtain ⟨f1, f2⟩ := halves_fit (l := L) (by rw [HLW.out]; have := HNS.out; omega) HLM.out hl2
              obtain ⟨sp, hsp⟩ : ∃ sp, L[cutN 4 0 L]? = some sp := ⟨_, List.getElem?_eq_getElem (by omega)⟩
              have hsk : m.recs[m.cut]? = some sp := by rw [hcut, HMR.out]; exact hsp
              have HSP := hid (split_walk (n := m) HQ8.out.nr hms (by rw [hgp, HMR.out]; omega) (fun h => by rw [HML.out] at h; cases h) _ hsk)
              have elo : m.lo m.cut = ⟨true, L.take (cutN 4 0 L), []⟩ := by unfold No.lo; rw [HML.out, HMR.out, hcut]; rfl
              have ehi : m.hi m.cut = ⟨true, L.drop (cutN 4 0 L), []⟩ := by unfold No.hi; rw [HML.out, HMR.out, hcut, hgp]; rfl
              unfold nodeV at HSP
              rw [elo, ehi, HML.out, HMR.out, HMK.out, List.length_nil] at HSP
              have g1 : Hid (risesB (L.take (cutN 4 0 L)) = true) := rises_take HP.out _
              have g2 : Hid (risesB (L.drop (cutN 4 0 L)) = true) := rises_drop HP.out _
              have g3 : Hid ((L.drop (cutN 4 0 L))[0]? = some sp) := by show _ = _; rw [List.getElem?_drop, Nat.add_zero]; exact hsp
              have g4 : 0 < (L.take (cutN 4 0 L)).length := by simp; omega
              have g5 : 0 < (L.drop (cutN 4 0 L)).length := by simp; omega
              have g6 : Hid (∀ x ∈ L.take (cutN 4 0 L), x.size ≤ 400) := fun x hx => HLM.out x (List.mem_of_mem_take hx)
              have g7 : Hid (∀ x ∈ L.drop (cutN 4 0 L), x.size ≤ 400) := fun x hx => HLM.out x (List.mem_of_mem_drop hx)
              have g8 : (L.take (cutN 4 0 L)).length ≤ 1000 := by simp; omega
              have g9 : (L.drop (cutN 4 0 L)).length ≤ 1000 := by simp; omega
              clear hsk hsp elo ehi hcut hgp hcl HRT
              generalize L.take (cutN 4 0 L) = L1 at *
              generalize L.drop (cutN 4 0 L) = L2 at *
              go_wp2_with fail
              refine HSP.out.mono ?_
              rintro e w9 ⟨r1, k1, r2, k2, rfl, HV⟩
              clear HSP
              obtain ⟨y1, t1, y2, t2, y3, t3, y4, t4, rfl, rfl, rfl, rfl⟩ := HV.slices
              obtain ⟨u1, v1, e1, rd1, _, _⟩ := owns_rd HV.a1
              obtain ⟨u2, v2, e2, rd2, _, _⟩ := owns_rd HV.a2
              obtain ⟨u3, v3, e3, rd3, _, _⟩ := owns_rd HV.b1
              obtain ⟨u4, v4, e4, rd4, _, _⟩ := owns_rd HV.b2
              cases e1
              cases e2
              cases e3
              cases e4
              have N1 : Hid (NR w9 ⟨true, L1, []⟩ y1 t1 y2 t2) := ⟨rd1, rd2⟩
              have N2 : Hid (NR w9 ⟨true, L2, []⟩ y3 t3 y4 t4) := ⟨rd3, rd4⟩
              have H9 : Hid (Below w.heap.size w w9) := below_on HB7.out (below_on HQ8.out.bx.below HV.below)
              have M1 : (No.mk true L1 []).small := ⟨g8, Nat.zero_le _, fun x hx => by have := g6.out x hx; omega⟩
              have M2 : (No.mk true L2 []).small := ⟨g9, Nat.zero_le _, fun x hx => by have := g7.out x hx; omega⟩
              have Q1 := hid (fun (W : World) (hb : Below w9.heap.size w9 W) => right_walk (N1.out.below hb) M1)
              have Q2 := hid (fun (W : World) (hb : Below w9.heap.size w9 W) => right_walk (N2.out.below hb) M2)
              have z1 : ((No.mk true L1 []).shaped && decide ((No.mk true L1 []).size ≤ 1024)) = true := by
                rw [leaf_shaped, g1.out, Bool.true_and, decide_eq_true_eq]; exact f1
              have z2 : ((No.mk true L2 []).shaped && decide ((No.mk true L2 []).size ≤ 1024)) = true := by
                rw [leaf_shaped, g2.out, Bool.true_and, decide_eq_true_eq]; exact f2
              rw [z1] at Q1
              rw [z2] at Q2
              unfold nodeV at Q1 Q2
              simp only [List.length_nil] at Q1 Q2
              obtain ⟨bb, oo, ey, hbl, hce⟩ := rd3.2.2 0 (.string sp) (by simp [svs, g3.out])
              subst ey
              clear rd1 rd2 rd3 rd4 HV z1 z2 d0 d1 d2
              have P2 := two_blocks w9 (.cells #[.bool true, .slice y1 L1.length t1, .slice y2 0 t2] 25) (.cells #[.bool true, .slice (some ⟨bb, oo, none⟩) L2.length t3, .slice y4 0 t4] 25)
              have HP2 := hid P2
              clear P2
              go_wp2_with fail
              generalize (w9.alloc (.cells #[.bool true, .slice y1 L1.length t1, .slice y2 0 t2] 25)).alloc (.cells #[.bool true, .slice (some ⟨bb, oo, none⟩) L2.length t3, .slice y4 0 t4] 25) = W9 at *
              obtain ⟨p9, p11, BW⟩ := HP2.out
              have hz11 := (Array.getElem?_eq_some_iff.1 p11).1
              refine (Q1.out _ BW).mono ?_
              rintro e w10 ⟨rfl, B10⟩
              have q9 := (B10.block _ (Array.getElem?_eq_some_iff.1 p9).1).trans p9
              have q11 := (B10.block _ (Array.getElem?_eq_some_iff.1 p11).1).trans p11
              obtain ⟨r90, r91, r92⟩ := node_cells q9
              obtain ⟨r110, r111, r112⟩ := node_cells q11
              have B11 := below_on BW B10
              have hz10 := (Array.getElem?_eq_some_iff.1 q11).1
              have HQ9 := hid (And.intro q9 q11)
              clear p9 p11 q9 q11 B10 BW HP2 hz11
              go_wp2_with fail
              refine (Q2.out _ B11).mono ?_
              rintro e w11 ⟨rfl, B12⟩
              have s9 := (B12.block _ (Array.getElem?_eq_some_iff.1 HQ9.out.1).1).trans HQ9.out.1
              have s11 := (B12.block _ (Array.getElem?_eq_some_iff.1 HQ9.out.2).1).trans HQ9.out.2
              clear r90 r91 r92 r110 r111 r112 hz10 HQ9
              have hz12 := (Array.getElem?_eq_some_iff.1 s11).1
              obtain ⟨r90, r91, r92⟩ := node_cells s9
              obtain ⟨r110, r111, r112⟩ := node_cells s11
              have hcs : w11.cell? ⟨bb, oo, none⟩ = some (.string sp) := by
                rw [B12.cell (Nat.lt_of_lt_of_le hbl B11.size), B11.cell hbl]
                exact hce
              have HF := hid (below_on H9.out (below_on B11 B12))
              have g4' : (0 : Int) < (L1.length : Int) := by omega
              have g5' : (0 : Int) < (L2.length : Int) := by omega
              clear s9 s11 B11 B12 hce
              go_wp2
              go_ret
              exact ⟨rfl, HF.out⟩
      · have he : n.recs = [] := List.eq_nil_of_length_eq_zero (by omega)
        have HE : Hid (n.recs = []) := he
        have E1 : ∀ k, n.recs.take k = [] := fun k => by rw [he, List.take_nil]
        have E2 : ∀ k, n.recs.drop k = [] := fun k => by rw [he, List.drop_nil]
        have HE1 := hid E1
        have HE2 := hid E2
        clear E1 E2 he
        cases a with
        | none =>
          have lb0 : Hid ((n.recs.drop A).length = 0) := by show _ = 0; rw [HE2.out A]; rfl
          have hc0 := hnil rfl
          have hA0 : A = 0 := by omega
          subst hc0 hA0
          go_wp2
          go_region_held_law (fun w' => w'.cell? ⟨w.heap.size, 1, none⟩ = some (.slice (none) n.recs.length 0)) (simp [*]) (first
            | (refine step_none w4.heap.size (F1.out).bel.size rfl (.tmp 43) (.tmp 47) rfl (.slice (some ⟨w4.heap.size, 0, none⟩) 0 0) [] 0 ?_ (F1.out).own (by omega) ?_ ?_
               · first | (simp [Act.eval]; done) | (simp [Act.eval, Act.put]; done)
               · first | (simp [Act.eval]; done) | (simp [Act.eval, Act.put]; done)
               intro v5 w5 hown hgr
               have R5 := (F1.out).grow HN4.out hgr (l' := n.recs.take 0) (congrArg List.length (HE1.out 0)).symm (by rw [HE1.out 0]; exact hown)
               have HR5 : Hid (RW w w4 n (none) 0 a' c' v5 (n.recs.take 0) w5) := R5
               have k5 := R5.nq.bx.c1
               have kl5 := R5.nq.bx.lt
               clear R5 hown hgr)
            | (refine step_none w4.heap.size (F1.out.alloc (.cells #[.string s] 9)).bel.size rfl (.tmp 43) (.tmp 47) rfl (.slice (some ⟨w4.heap.size, 0, none⟩) 0 0) [] 0 ?_ (F1.out.alloc (.cells #[.string s] 9)).own (by omega) ?_ ?_
               · first | (simp [Act.eval]; done) | (simp [Act.eval, Act.put]; done)
               · first | (simp [Act.eval]; done) | (simp [Act.eval, Act.put]; done)
               intro v5 w5 hown hgr
               have R5 := (F1.out.alloc (.cells #[.string s] 9)).grow HN4.out hgr (l' := n.recs.take 0) (congrArg List.length (HE1.out 0)).symm (by rw [HE1.out 0]; exact hown)
               have HO5 : Hid (OneS w5 (w4.heap.size + 1) s) := (OneS.next w4 s).grow hgr (by simp [Value.ownBlock])
               have HR5 : Hid (RW w w4 n (none) 0 a' c' v5 (n.recs.take 0) w5) := R5
               have k5 := R5.nq.bx.c1
               have kl5 := R5.nq.bx.lt
               clear R5 hown hgr)
            | (refine step_none w4.heap.size (F2a.out).bel.size rfl (.tmp 43) (.tmp 47) rfl (.slice (some ⟨w4.heap.size + 1, 0, none⟩) 0 0) [] 0 ?_ (F2a.out).own (by omega) ?_ ?_
               · first | (simp [Act.eval]; done) | (simp [Act.eval, Act.put]; done)
               · first | (simp [Act.eval]; done) | (simp [Act.eval, Act.put]; done)
               intro v5 w5 hown hgr
               have R5 := (F2a.out).grow HN4.out hgr (l' := n.recs.take 0) (congrArg List.length (HE1.out 0)).symm (by rw [HE1.out 0]; exact hown)
               have HO5 : Hid (OneS w5 w4.heap.size s) := F2b.out.grow hgr (by simp [Value.ownBlock])
               have HR5 : Hid (RW w w4 n (none) 0 a' c' v5 (n.recs.take 0) w5) := R5
               have k5 := R5.nq.bx.c1
               have kl5 := R5.nq.bx.lt
               clear R5 hown hgr)
            | (refine step_strs w4.heap.size (HR5.out).bel.size rfl (.tmp 48) (.tmp 50) rfl v5 (n.recs.take 0) (n.recs.take 0).length ?_ (HR5.out).own (by rw [la.out]; omega) ⟨w4.heap.size + 1, 0, none⟩ [s] 1 1 ?_ rfl (by omega) (HO5.out).cells ?_
               · first | (simp [Act.eval]; done) | (simp [Act.eval, Act.put]; done)
               · first | (simp [Act.eval]; done) | (simp [Act.eval, Act.put]; done)
               intro v6 w6 hown hgr
               have R6 := (HR5.out).grow HN4.out hgr (l' := n.recs.take 0 ++ [s]) (by rw [List.length_append]; rfl) hown
               have HR6 : Hid (RW w w4 n (none) 0 a' c' v6 (n.recs.take 0 ++ [s]) w6) := R6
               have k6 := R6.nq.bx.c1
               have kl6 := R6.nq.bx.lt
               clear R6 hown hgr)
            | (refine step_strs w4.heap.size (HR5.out).bel.size rfl (.tmp 48) (.tmp 50) rfl v5 (n.recs.take 0) (n.recs.take 0).length ?_ (HR5.out).own (by rw [la.out]; omega) ⟨w4.heap.size, 0, none⟩ [s] 1 1 ?_ rfl (by omega) (HO5.out).cells ?_
               · first | (simp [Act.eval]; done) | (simp [Act.eval, Act.put]; done)
               · first | (simp [Act.eval]; done) | (simp [Act.eval, Act.put]; done)
               intro v6 w6 hown hgr
               have R6 := (HR5.out).grow HN4.out hgr (l' := n.recs.take 0 ++ [s]) (by rw [List.length_append]; rfl) hown
               have HR6 : Hid (RW w w4 n (none) 0 a' c' v6 (n.recs.take 0 ++ [s]) w6) := R6
               have k6 := R6.nq.bx.c1
               have kl6 := R6.nq.bx.lt
               clear R6 hown hgr)
            | (refine step_strs w4.heap.size (HR5.out.alloc (.cells #[.string s] 9)).bel.size rfl (.tmp 48) (.tmp 50) rfl v5 (n.recs.take 0) (n.recs.take 0).length ?_ (HR5.out.alloc (.cells #[.string s] 9)).own (by rw [la.out]; omega) ⟨w5.heap.size, 0, none⟩ [s] 1 1 ?_ rfl (by omega) (OneS.last w5 s).cells ?_
               · first | (simp [Act.eval]; done) | (simp [Act.eval, Act.put]; done)
               · first | (simp [Act.eval]; done) | (simp [Act.eval, Act.put]; done)
               intro v6 w6 hown hgr
               have R6 := (HR5.out.alloc (.cells #[.string s] 9)).grow HN4.out hgr (l' := n.recs.take 0 ++ [s]) (by rw [List.length_append]; rfl) hown
               have HR6 : Hid (RW w w4 n (none) 0 a' c' v6 (n.recs.take 0 ++ [s]) w6) := R6
               have k6 := R6.nq.bx.c1
               have kl6 := R6.nq.bx.lt
               clear R6 hown hgr)
            | (refine step_none w4.heap.size HR6.out.bel.size rfl (.tmp 51) (.tmp 55) rfl v6 (n.recs.take 0 ++ [s]) (n.recs.take 0 ++ [s]).length ?_ HR6.out.own (by rw [List.length_append, la.out]; simp) ?_ ?_
               · first | (simp [Act.eval]; done) | (simp [Act.eval, Act.put]; done)
               · first | (simp [Act.eval]; done) | (simp [Act.eval, Act.put]; done)
               intro v7 w7 hown hgr
               have R7 := HR6.out.grow HN4.out hgr (l' := insL n.recs s) (by rw [HINS.out, HE2.out 0, List.append_nil]) (by rw [HINS.out, HE2.out 0, List.append_nil]; exact hown)
               obtain ⟨x7, q7, rfl, _, _, _⟩ := owns_rd R7.own
               have HR7 : Hid (RW w w4 n (none) 0 a' c' (.slice x7 (insL n.recs s).length q7) (insL n.recs s) w7) := R7
               have k7 := R7.nq.bx.c1
               have kl7 := R7.nq.bx.lt
               clear R7 hown hgr))
          all_goals
            obtain ⟨x7', q7', e7, rd7, _, _⟩ := owns_rd HR7.out.own
            cases e7
            have HB7 : Hid (Below w.heap.size w w7) := HR7.out.nq.bx.below
            have HLL : Hid ((insL n.recs s).length = n.recs.length + 1) := ins_length n.recs s
            have HLW : Hid (weigh (insL n.recs s) = weigh n.recs + (4 + s.size)) := ins_weigh n.recs s
            have HLM : Hid (∀ x ∈ insL n.recs s, x.size ≤ 400) := fun x hx => (((rises_iff _).1 HP.out).1 x hx).2
            have HNS : Hid (3 + weigh n.recs ≤ 1024) := (by have := hsz; unfold No.size at this; show 3 + weigh n.recs ≤ 1024; omega)
            have hLlen : (insL n.recs s).length ≤ 1000 := (by rw [HLL.out]; omega)
            have HQ : Hid (Nq w7 ⟨true, insL n.recs s, []⟩ x7 q7 none 0 (w7.alloc (.cells #[.bool true, .slice x7 (insL n.recs s).length q7, .slice none 0 0] 25))) := Nq.new (n := ⟨true, insL n.recs s, []⟩) ⟨rd7, rd_nil _⟩ _
            clear rd7 HR7 HN4 HR hth hri hshp hsz hg
            obtain ⟨m, hm⟩ : ∃ m : No, Hid (m = ⟨true, insL n.recs s, []⟩) := ⟨_, rfl⟩
            rw [← hm.out] at HQ
            have hml : m.leaf = true := (by rw [hm.out])
            have hmr : m.recs = insL n.recs s := (by rw [hm.out])
            have hmk : m.kids = [] := (by rw [hm.out])
            have HMR : Hid (m.recs = insL n.recs s) := hmr
            have HML : Hid (m.leaf = true) := hml
            have HMK : Hid (m.kids = []) := hmk
            have hms : m.small := ⟨by rw [hmr]; exact hLlen, by rw [hmk]; exact Nat.zero_le _, fun x hx => by rw [hmr] at hx; have := HLM.out x hx; omega⟩
            have HSH : Hid (m.shaped = true) := (by show m.shaped = true; rw [hm.out, leaf_shaped]; exact HP.out)
            have HMS : Hid (m.size = 3 + weigh (insL n.recs s)) := (by show m.size = _; unfold No.size; rw [hmr, hmk]; rfl)
            have HSZ := hid (size_walk (n := m) HQ.out.nr hms)
            have HRT := hid (fun (W : World) (hq : Nq w7 m x7 q7 none 0 W) => right_walk (n := m) hq.nr hms)
            unfold nodeV at HSZ HRT
            rw [hml, hmk] at HSZ HRT
            have b0 := HQ.out.bx.c0
            have b1 := HQ.out.bx.c1
            have b2 := HQ.out.bx.c2
            rw [hml] at b0
            rw [hmr] at b1
            rw [hmk] at b2
            rw [hmr] at HSZ HRT
            rw [List.length_nil] at HSZ HRT b2
            clear hm hml hmr hmk
            generalize insL n.recs s = L at *
            have HBX := hid (And.intro b0 (And.intro b1 b2))
            clear b0 b1 b2
            go_wp2_with fail
            generalize w7.alloc (.cells #[.bool true, .slice x7 L.length q7, .slice none 0 0] 25) = W8 at *
            refine HSZ.out.mono ?_
            rintro e w8 ⟨rfl, B8⟩
            have HQ8 : Hid (Nq w7 m x7 q7 none 0 w8) := HQ.out.on B8
            have xl8 := HQ8.out.bx.lt
            obtain ⟨b0, b1, b2⟩ := HBX.out
            have d0 : w8.cell? ⟨w7.heap.size, 0, none⟩ = some (.bool true) := (by rw [B8.cell HQ.out.bx.lt]; exact b0)
            have d1 : w8.cell? ⟨w7.heap.size, 1, none⟩ = some (.slice x7 L.length q7) := (by rw [B8.cell HQ.out.bx.lt]; exact b1)
            have d2 : w8.cell? ⟨w7.heap.size, 2, none⟩ = some (.slice none 0 0) := (by rw [B8.cell HQ.out.bx.lt]; exact b2)
            clear b0 b1 b2 HBX B8 HSZ HQ
            have hfit : m.size ≤ 1024 := (by rw [HMS.out, HLW.out, HE.out]; show 3 + (0 + (4 + s.size)) ≤ 1024; omega)
            have hfit' : (m.size : Int) ≤ 1024 := by omega
            have HRT8 := hid (HRT.out w8 HQ8.out)
            rw [HSH.out, decide_eq_true hfit] at HRT8
            go_wp2_with fail
            refine HRT8.out.mono ?_
            rintro e w9 ⟨rfl, B9⟩
            have HBB := (HQ8.out.on B9).bx.below
            clear HRT8
            go_wp2
            go_ret
            exact ⟨rfl, below_on HB7.out HBB⟩
        | some ad =>
          have T1 : Hid (∀ W : World, Nq w n (some ad) c a' c' W → ∀ j u, (svs (n.recs.take A))[j]? = some u → W.cell? (ad.add j) = some u) := fun W _ j u hj => by
            rw [HE1.out A] at hj
            simp [svs] at hj
          by_cases hcA : c = A
          · subst hcA
            have lb0 : Hid ((n.recs.drop c).length = 0) := by show _ = 0; rw [lb.out]; omega
            have T2 : Hid (∀ W : World, Nq w n (some ad) c a' c' W → ∀ j u, (svs (n.recs.drop c))[j]? = some u → W.cell? (ad.add j) = some u) := fun W _ j u hj => by
              rw [HE2.out c] at hj
              simp [svs] at hj
            go_wp2
            go_region_held_law (fun w' => w'.cell? ⟨w.heap.size, 1, none⟩ = some (.slice (some ad) n.recs.length c)) (simp [*]) (first
              | (refine step_strs w4.heap.size (F1.out).bel.size rfl (.tmp 43) (.tmp 47) rfl (.slice (some ⟨w4.heap.size, 0, none⟩) 0 0) [] 0 ?_ (F1.out).own (by omega) ad (n.recs.take c) c c ?_ la.out (by omega) (T1.out _ (F1.out).nq) ?_
                 · first | (simp [Act.eval]; done) | (simp [Act.eval, Act.put]; done)
                 · first | (simp [Act.eval]; done) | (simp [Act.eval, Act.put]; done)
                 intro v5 w5 hown hgr
                 have R5 := (F1.out).grow HN4.out hgr (l' := n.recs.take c) (by rw [la.out, Nat.zero_add]) hown
                 have HR5 : Hid (RW w w4 n (some ad) c a' c' v5 (n.recs.take c) w5) := R5
                 have k5 := R5.nq.bx.c1
                 have kl5 := R5.nq.bx.lt
                 clear R5 hown hgr)
              | (refine step_strs w4.heap.size (F1.out.alloc (.cells #[.string s] 9)).bel.size rfl (.tmp 43) (.tmp 47) rfl (.slice (some ⟨w4.heap.size, 0, none⟩) 0 0) [] 0 ?_ (F1.out.alloc (.cells #[.string s] 9)).own (by omega) ad (n.recs.take c) c c ?_ la.out (by omega) (T1.out _ (F1.out.alloc (.cells #[.string s] 9)).nq) ?_
                 · first | (simp [Act.eval]; done) | (simp [Act.eval, Act.put]; done)
                 · first | (simp [Act.eval]; done) | (simp [Act.eval, Act.put]; done)
                 intro v5 w5 hown hgr
                 have R5 := (F1.out.alloc (.cells #[.string s] 9)).grow HN4.out hgr (l' := n.recs.take c) (by rw [la.out, Nat.zero_add]) hown
                 have HO5 : Hid (OneS w5 (w4.heap.size + 1) s) := (OneS.next w4 s).grow hgr (by simp [Value.ownBlock])
                 have HR5 : Hid (RW w w4 n (some ad) c a' c' v5 (n.recs.take c) w5) := R5
                 have k5 := R5.nq.bx.c1
                 have kl5 := R5.nq.bx.lt
                 clear R5 hown hgr)
              | (refine step_strs w4.heap.size (F2a.out).bel.size rfl (.tmp 43) (.tmp 47) rfl (.slice (some ⟨w4.heap.size + 1, 0, none⟩) 0 0) [] 0 ?_ (F2a.out).own (by omega) ad (n.recs.take c) c c ?_ la.out (by omega) (T1.out _ (F2a.out).nq) ?_
                 · first | (simp [Act.eval]; done) | (simp [Act.eval, Act.put]; done)
                 · first | (simp [Act.eval]; done) | (simp [Act.eval, Act.put]; done)
                 intro v5 w5 hown hgr
                 have R5 := (F2a.out).grow HN4.out hgr (l' := n.recs.take c) (by rw [la.out, Nat.zero_add]) hown
                 have HO5 : Hid (OneS w5 w4.heap.size s) := F2b.out.grow hgr (by simp [Value.ownBlock])
                 have HR5 : Hid (RW w w4 n (some ad) c a' c' v5 (n.recs.take c) w5) := R5
                 have k5 := R5.nq.bx.c1
                 have kl5 := R5.nq.bx.lt
                 clear R5 hown hgr)
              | (refine step_strs w4.heap.size (HR5.out).bel.size rfl (.tmp 48) (.tmp 50) rfl v5 (n.recs.take c) (n.recs.take c).length ?_ (HR5.out).own (by rw [la.out]; omega) ⟨w4.heap.size + 1, 0, none⟩ [s] 1 1 ?_ rfl (by omega) (HO5.out).cells ?_
                 · first | (simp [Act.eval]; done) | (simp [Act.eval, Act.put]; done)
                 · first | (simp [Act.eval]; done) | (simp [Act.eval, Act.put]; done)
                 intro v6 w6 hown hgr
                 have R6 := (HR5.out).grow HN4.out hgr (l' := n.recs.take c ++ [s]) (by rw [List.length_append]; rfl) hown
                 have HR6 : Hid (RW w w4 n (some ad) c a' c' v6 (n.recs.take c ++ [s]) w6) := R6
                 have k6 := R6.nq.bx.c1
                 have kl6 := R6.nq.bx.lt
                 clear R6 hown hgr)
              | (refine step_strs w4.heap.size (HR5.out).bel.size rfl (.tmp 48) (.tmp 50) rfl v5 (n.recs.take c) (n.recs.take c).length ?_ (HR5.out).own (by rw [la.out]; omega) ⟨w4.heap.size, 0, none⟩ [s] 1 1 ?_ rfl (by omega) (HO5.out).cells ?_
                 · first | (simp [Act.eval]; done) | (simp [Act.eval, Act.put]; done)
                 · first | (simp [Act.eval]; done) | (simp [Act.eval, Act.put]; done)
                 intro v6 w6 hown hgr
                 have R6 := (HR5.out).grow HN4.out hgr (l' := n.recs.take c ++ [s]) (by rw [List.length_append]; rfl) hown
                 have HR6 : Hid (RW w w4 n (some ad) c a' c' v6 (n.recs.take c ++ [s]) w6) := R6
                 have k6 := R6.nq.bx.c1
                 have kl6 := R6.nq.bx.lt
                 clear R6 hown hgr)
              | (refine step_strs w4.heap.size (HR5.out.alloc (.cells #[.string s] 9)).bel.size rfl (.tmp 48) (.tmp 50) rfl v5 (n.recs.take c) (n.recs.take c).length ?_ (HR5.out.alloc (.cells #[.string s] 9)).own (by rw [la.out]; omega) ⟨w5.heap.size, 0, none⟩ [s] 1 1 ?_ rfl (by omega) (OneS.last w5 s).cells ?_
                 · first | (simp [Act.eval]; done) | (simp [Act.eval, Act.put]; done)
                 · first | (simp [Act.eval]; done) | (simp [Act.eval, Act.put]; done)
                 intro v6 w6 hown hgr
                 have R6 := (HR5.out.alloc (.cells #[.string s] 9)).grow HN4.out hgr (l' := n.recs.take c ++ [s]) (by rw [List.length_append]; rfl) hown
                 have HR6 : Hid (RW w w4 n (some ad) c a' c' v6 (n.recs.take c ++ [s]) w6) := R6
                 have k6 := R6.nq.bx.c1
                 have kl6 := R6.nq.bx.lt
                 clear R6 hown hgr)
              | (refine step_strs w4.heap.size HR6.out.bel.size rfl (.tmp 51) (.tmp 55) rfl v6 (n.recs.take c ++ [s]) (n.recs.take c ++ [s]).length ?_ HR6.out.own (by rw [List.length_append, la.out]; simp; omega) ad (n.recs.drop c) 0 0 ?_ lb0.out (by omega) (T2.out _ HR6.out.nq) ?_
                 · first | (simp [Act.eval]; done) | (simp [Act.eval, Act.put]; done)
                 · first | (simp [Act.eval]; done) | (simp [Act.eval, Act.put]; done)
                 intro v7 w7 hown hgr
                 have R7 := HR6.out.grow HN4.out hgr (l' := insL n.recs s) (by rw [HINS.out, List.length_append, lb0.out]) (by rw [HINS.out]; exact hown)
                 obtain ⟨x7, q7, rfl, _, _, _⟩ := owns_rd R7.own
                 have HR7 : Hid (RW w w4 n (some ad) c a' c' (.slice x7 (insL n.recs s).length q7) (insL n.recs s) w7) := R7
                 have k7 := R7.nq.bx.c1
                 have kl7 := R7.nq.bx.lt
                 clear R7 hown hgr))
            all_goals
              obtain ⟨x7', q7', e7, rd7, _, _⟩ := owns_rd HR7.out.own
              cases e7
              have HB7 : Hid (Below w.heap.size w w7) := HR7.out.nq.bx.below
              have HLL : Hid ((insL n.recs s).length = n.recs.length + 1) := ins_length n.recs s
              have HLW : Hid (weigh (insL n.recs s) = weigh n.recs + (4 + s.size)) := ins_weigh n.recs s
              have HLM : Hid (∀ x ∈ insL n.recs s, x.size ≤ 400) := fun x hx => (((rises_iff _).1 HP.out).1 x hx).2
              have HNS : Hid (3 + weigh n.recs ≤ 1024) := (by have := hsz; unfold No.size at this; show 3 + weigh n.recs ≤ 1024; omega)
              have hLlen : (insL n.recs s).length ≤ 1000 := (by rw [HLL.out]; omega)
              have HQ : Hid (Nq w7 ⟨true, insL n.recs s, []⟩ x7 q7 none 0 (w7.alloc (.cells #[.bool true, .slice x7 (insL n.recs s).length q7, .slice none 0 0] 25))) := Nq.new (n := ⟨true, insL n.recs s, []⟩) ⟨rd7, rd_nil _⟩ _
              clear rd7 HR7 HN4 HR hth hri hshp hsz hg
              obtain ⟨m, hm⟩ : ∃ m : No, Hid (m = ⟨true, insL n.recs s, []⟩) := ⟨_, rfl⟩
              rw [← hm.out] at HQ
              have hml : m.leaf = true := (by rw [hm.out])
              have hmr : m.recs = insL n.recs s := (by rw [hm.out])
              have hmk : m.kids = [] := (by rw [hm.out])
              have HMR : Hid (m.recs = insL n.recs s) := hmr
              have HML : Hid (m.leaf = true) := hml
              have HMK : Hid (m.kids = []) := hmk
              have hms : m.small := ⟨by rw [hmr]; exact hLlen, by rw [hmk]; exact Nat.zero_le _, fun x hx => by rw [hmr] at hx; have := HLM.out x hx; omega⟩
              have HSH : Hid (m.shaped = true) := (by show m.shaped = true; rw [hm.out, leaf_shaped]; exact HP.out)
              have HMS : Hid (m.size = 3 + weigh (insL n.recs s)) := (by show m.size = _; unfold No.size; rw [hmr, hmk]; rfl)
              have HSZ := hid (size_walk (n := m) HQ.out.nr hms)
              have HRT := hid (fun (W : World) (hq : Nq w7 m x7 q7 none 0 W) => right_walk (n := m) hq.nr hms)
              unfold nodeV at HSZ HRT
              rw [hml, hmk] at HSZ HRT
              have b0 := HQ.out.bx.c0
              have b1 := HQ.out.bx.c1
              have b2 := HQ.out.bx.c2
              rw [hml] at b0
              rw [hmr] at b1
              rw [hmk] at b2
              rw [hmr] at HSZ HRT
              rw [List.length_nil] at HSZ HRT b2
              clear hm hml hmr hmk
              generalize insL n.recs s = L at *
              have HBX := hid (And.intro b0 (And.intro b1 b2))
              clear b0 b1 b2
              go_wp2_with fail
              generalize w7.alloc (.cells #[.bool true, .slice x7 L.length q7, .slice none 0 0] 25) = W8 at *
              refine HSZ.out.mono ?_
              rintro e w8 ⟨rfl, B8⟩
              have HQ8 : Hid (Nq w7 m x7 q7 none 0 w8) := HQ.out.on B8
              have xl8 := HQ8.out.bx.lt
              obtain ⟨b0, b1, b2⟩ := HBX.out
              have d0 : w8.cell? ⟨w7.heap.size, 0, none⟩ = some (.bool true) := (by rw [B8.cell HQ.out.bx.lt]; exact b0)
              have d1 : w8.cell? ⟨w7.heap.size, 1, none⟩ = some (.slice x7 L.length q7) := (by rw [B8.cell HQ.out.bx.lt]; exact b1)
              have d2 : w8.cell? ⟨w7.heap.size, 2, none⟩ = some (.slice none 0 0) := (by rw [B8.cell HQ.out.bx.lt]; exact b2)
              clear b0 b1 b2 HBX B8 HSZ HQ
              have hfit : m.size ≤ 1024 := (by rw [HMS.out, HLW.out, HE.out]; show 3 + (0 + (4 + s.size)) ≤ 1024; omega)
              have hfit' : (m.size : Int) ≤ 1024 := by omega
              have HRT8 := hid (HRT.out w8 HQ8.out)
              rw [HSH.out, decide_eq_true hfit] at HRT8
              go_wp2_with fail
              refine HRT8.out.mono ?_
              rintro e w9 ⟨rfl, B9⟩
              have HBB := (HQ8.out.on B9).bx.below
              clear HRT8
              go_wp2
              go_ret
              exact ⟨rfl, below_on HB7.out HBB⟩
          · have T2 : Hid (∀ W : World, Nq w n (some ad) c a' c' W → ∀ j u, (svs (n.recs.drop A))[j]? = some u → W.cell? ((ad.add A).add j) = some u) := fun W _ j u hj => by
              rw [HE2.out A] at hj
              simp [svs] at hj
            go_wp2
            go_region_held_law (fun w' => w'.cell? ⟨w.heap.size, 1, none⟩ = some (.slice (some ad) n.recs.length c)) (simp [*]) (first
              | (refine step_strs w4.heap.size (F1.out).bel.size rfl (.tmp 43) (.tmp 47) rfl (.slice (some ⟨w4.heap.size, 0, none⟩) 0 0) [] 0 ?_ (F1.out).own (by omega) ad (n.recs.take A) A c ?_ la.out (by omega) (T1.out _ (F1.out).nq) ?_
                 · first | (simp [Act.eval]; done) | (simp [Act.eval, Act.put]; done)
                 · first | (simp [Act.eval]; done) | (simp [Act.eval, Act.put]; done)
                 intro v5 w5 hown hgr
                 have R5 := (F1.out).grow HN4.out hgr (l' := n.recs.take A) (by rw [la.out, Nat.zero_add]) hown
                 have HR5 : Hid (RW w w4 n (some ad) c a' c' v5 (n.recs.take A) w5) := R5
                 have k5 := R5.nq.bx.c1
                 have kl5 := R5.nq.bx.lt
                 clear R5 hown hgr)
              | (refine step_strs w4.heap.size (F1.out.alloc (.cells #[.string s] 9)).bel.size rfl (.tmp 43) (.tmp 47) rfl (.slice (some ⟨w4.heap.size, 0, none⟩) 0 0) [] 0 ?_ (F1.out.alloc (.cells #[.string s] 9)).own (by omega) ad (n.recs.take A) A c ?_ la.out (by omega) (T1.out _ (F1.out.alloc (.cells #[.string s] 9)).nq) ?_
                 · first | (simp [Act.eval]; done) | (simp [Act.eval, Act.put]; done)
                 · first | (simp [Act.eval]; done) | (simp [Act.eval, Act.put]; done)
                 intro v5 w5 hown hgr
                 have R5 := (F1.out.alloc (.cells #[.string s] 9)).grow HN4.out hgr (l' := n.recs.take A) (by rw [la.out, Nat.zero_add]) hown
                 have HO5 : Hid (OneS w5 (w4.heap.size + 1) s) := (OneS.next w4 s).grow hgr (by simp [Value.ownBlock])
                 have HR5 : Hid (RW w w4 n (some ad) c a' c' v5 (n.recs.take A) w5) := R5
                 have k5 := R5.nq.bx.c1
                 have kl5 := R5.nq.bx.lt
                 clear R5 hown hgr)
              | (refine step_strs w4.heap.size (F2a.out).bel.size rfl (.tmp 43) (.tmp 47) rfl (.slice (some ⟨w4.heap.size + 1, 0, none⟩) 0 0) [] 0 ?_ (F2a.out).own (by omega) ad (n.recs.take A) A c ?_ la.out (by omega) (T1.out _ (F2a.out).nq) ?_
                 · first | (simp [Act.eval]; done) | (simp [Act.eval, Act.put]; done)
                 · first | (simp [Act.eval]; done) | (simp [Act.eval, Act.put]; done)
                 intro v5 w5 hown hgr
                 have R5 := (F2a.out).grow HN4.out hgr (l' := n.recs.take A) (by rw [la.out, Nat.zero_add]) hown
                 have HO5 : Hid (OneS w5 w4.heap.size s) := F2b.out.grow hgr (by simp [Value.ownBlock])
                 have HR5 : Hid (RW w w4 n (some ad) c a' c' v5 (n.recs.take A) w5) := R5
                 have k5 := R5.nq.bx.c1
                 have kl5 := R5.nq.bx.lt
                 clear R5 hown hgr)
              | (refine step_strs w4.heap.size (HR5.out).bel.size rfl (.tmp 48) (.tmp 50) rfl v5 (n.recs.take A) (n.recs.take A).length ?_ (HR5.out).own (by rw [la.out]; omega) ⟨w4.heap.size + 1, 0, none⟩ [s] 1 1 ?_ rfl (by omega) (HO5.out).cells ?_
                 · first | (simp [Act.eval]; done) | (simp [Act.eval, Act.put]; done)
                 · first | (simp [Act.eval]; done) | (simp [Act.eval, Act.put]; done)
                 intro v6 w6 hown hgr
                 have R6 := (HR5.out).grow HN4.out hgr (l' := n.recs.take A ++ [s]) (by rw [List.length_append]; rfl) hown
                 have HR6 : Hid (RW w w4 n (some ad) c a' c' v6 (n.recs.take A ++ [s]) w6) := R6
                 have k6 := R6.nq.bx.c1
                 have kl6 := R6.nq.bx.lt
                 clear R6 hown hgr)
              | (refine step_strs w4.heap.size (HR5.out).bel.size rfl (.tmp 48) (.tmp 50) rfl v5 (n.recs.take A) (n.recs.take A).length ?_ (HR5.out).own (by rw [la.out]; omega) ⟨w4.heap.size, 0, none⟩ [s] 1 1 ?_ rfl (by omega) (HO5.out).cells ?_
                 · first | (simp [Act.eval]; done) | (simp [Act.eval, Act.put]; done)
                 · first | (simp [Act.eval]; done) | (simp [Act.eval, Act.put]; done)
                 intro v6 w6 hown hgr
                 have R6 := (HR5.out).grow HN4.out hgr (l' := n.recs.take A ++ [s]) (by rw [List.length_append]; rfl) hown
                 have HR6 : Hid (RW w w4 n (some ad) c a' c' v6 (n.recs.take A ++ [s]) w6) := R6
                 have k6 := R6.nq.bx.c1
                 have kl6 := R6.nq.bx.lt
                 clear R6 hown hgr)
              | (refine step_strs w4.heap.size (HR5.out.alloc (.cells #[.string s] 9)).bel.size rfl (.tmp 48) (.tmp 50) rfl v5 (n.recs.take A) (n.recs.take A).length ?_ (HR5.out.alloc (.cells #[.string s] 9)).own (by rw [la.out]; omega) ⟨w5.heap.size, 0, none⟩ [s] 1 1 ?_ rfl (by omega) (OneS.last w5 s).cells ?_
                 · first | (simp [Act.eval]; done) | (simp [Act.eval, Act.put]; done)
                 · first | (simp [Act.eval]; done) | (simp [Act.eval, Act.put]; done)
                 intro v6 w6 hown hgr
                 have R6 := (HR5.out.alloc (.cells #[.string s] 9)).grow HN4.out hgr (l' := n.recs.take A ++ [s]) (by rw [List.length_append]; rfl) hown
                 have HR6 : Hid (RW w w4 n (some ad) c a' c' v6 (n.recs.take A ++ [s]) w6) := R6
                 have k6 := R6.nq.bx.c1
                 have kl6 := R6.nq.bx.lt
                 clear R6 hown hgr)
              | (refine step_strs w4.heap.size HR6.out.bel.size rfl (.tmp 51) (.tmp 55) rfl v6 (n.recs.take A ++ [s]) (n.recs.take A ++ [s]).length ?_ HR6.out.own (by rw [List.length_append, la.out]; simp; omega) (ad.add A) (n.recs.drop A) (n.recs.length - A) (c - A) ?_ lb.out (by omega) (T2.out _ HR6.out.nq) ?_
                 · first | (simp [Act.eval]; done) | (simp [Act.eval, Act.put]; done)
                 · first | (simp [Act.eval]; done) | (simp [Act.eval, Act.put]; done)
                 intro v7 w7 hown hgr
                 have R7 := HR6.out.grow HN4.out hgr (l' := insL n.recs s) (by rw [HINS.out, List.length_append, lb.out]) (by rw [HINS.out]; exact hown)
                 obtain ⟨x7, q7, rfl, _, _, _⟩ := owns_rd R7.own
                 have HR7 : Hid (RW w w4 n (some ad) c a' c' (.slice x7 (insL n.recs s).length q7) (insL n.recs s) w7) := R7
                 have k7 := R7.nq.bx.c1
                 have kl7 := R7.nq.bx.lt
                 clear R7 hown hgr))
            all_goals
              obtain ⟨x7', q7', e7, rd7, _, _⟩ := owns_rd HR7.out.own
              cases e7
              have HB7 : Hid (Below w.heap.size w w7) := HR7.out.nq.bx.below
              have HLL : Hid ((insL n.recs s).length = n.recs.length + 1) := ins_length n.recs s
              have HLW : Hid (weigh (insL n.recs s) = weigh n.recs + (4 + s.size)) := ins_weigh n.recs s
              have HLM : Hid (∀ x ∈ insL n.recs s, x.size ≤ 400) := fun x hx => (((rises_iff _).1 HP.out).1 x hx).2
              have HNS : Hid (3 + weigh n.recs ≤ 1024) := (by have := hsz; unfold No.size at this; show 3 + weigh n.recs ≤ 1024; omega)
              have hLlen : (insL n.recs s).length ≤ 1000 := (by rw [HLL.out]; omega)
              have HQ : Hid (Nq w7 ⟨true, insL n.recs s, []⟩ x7 q7 none 0 (w7.alloc (.cells #[.bool true, .slice x7 (insL n.recs s).length q7, .slice none 0 0] 25))) := Nq.new (n := ⟨true, insL n.recs s, []⟩) ⟨rd7, rd_nil _⟩ _
              clear rd7 HR7 HN4 HR hth hri hshp hsz hg
              obtain ⟨m, hm⟩ : ∃ m : No, Hid (m = ⟨true, insL n.recs s, []⟩) := ⟨_, rfl⟩
              rw [← hm.out] at HQ
              have hml : m.leaf = true := (by rw [hm.out])
              have hmr : m.recs = insL n.recs s := (by rw [hm.out])
              have hmk : m.kids = [] := (by rw [hm.out])
              have HMR : Hid (m.recs = insL n.recs s) := hmr
              have HML : Hid (m.leaf = true) := hml
              have HMK : Hid (m.kids = []) := hmk
              have hms : m.small := ⟨by rw [hmr]; exact hLlen, by rw [hmk]; exact Nat.zero_le _, fun x hx => by rw [hmr] at hx; have := HLM.out x hx; omega⟩
              have HSH : Hid (m.shaped = true) := (by show m.shaped = true; rw [hm.out, leaf_shaped]; exact HP.out)
              have HMS : Hid (m.size = 3 + weigh (insL n.recs s)) := (by show m.size = _; unfold No.size; rw [hmr, hmk]; rfl)
              have HSZ := hid (size_walk (n := m) HQ.out.nr hms)
              have HRT := hid (fun (W : World) (hq : Nq w7 m x7 q7 none 0 W) => right_walk (n := m) hq.nr hms)
              unfold nodeV at HSZ HRT
              rw [hml, hmk] at HSZ HRT
              have b0 := HQ.out.bx.c0
              have b1 := HQ.out.bx.c1
              have b2 := HQ.out.bx.c2
              rw [hml] at b0
              rw [hmr] at b1
              rw [hmk] at b2
              rw [hmr] at HSZ HRT
              rw [List.length_nil] at HSZ HRT b2
              clear hm hml hmr hmk
              generalize insL n.recs s = L at *
              have HBX := hid (And.intro b0 (And.intro b1 b2))
              clear b0 b1 b2
              go_wp2_with fail
              generalize w7.alloc (.cells #[.bool true, .slice x7 L.length q7, .slice none 0 0] 25) = W8 at *
              refine HSZ.out.mono ?_
              rintro e w8 ⟨rfl, B8⟩
              have HQ8 : Hid (Nq w7 m x7 q7 none 0 w8) := HQ.out.on B8
              have xl8 := HQ8.out.bx.lt
              obtain ⟨b0, b1, b2⟩ := HBX.out
              have d0 : w8.cell? ⟨w7.heap.size, 0, none⟩ = some (.bool true) := (by rw [B8.cell HQ.out.bx.lt]; exact b0)
              have d1 : w8.cell? ⟨w7.heap.size, 1, none⟩ = some (.slice x7 L.length q7) := (by rw [B8.cell HQ.out.bx.lt]; exact b1)
              have d2 : w8.cell? ⟨w7.heap.size, 2, none⟩ = some (.slice none 0 0) := (by rw [B8.cell HQ.out.bx.lt]; exact b2)
              clear b0 b1 b2 HBX B8 HSZ HQ
              have hfit : m.size ≤ 1024 := (by rw [HMS.out, HLW.out, HE.out]; show 3 + (0 + (4 + s.size)) ≤ 1024; omega)
              have hfit' : (m.size : Int) ≤ 1024 := by omega
              have HRT8 := hid (HRT.out w8 HQ8.out)
              rw [HSH.out, decide_eq_true hfit] at HRT8
              go_wp2_with fail
              refine HRT8.out.mono ?_
              rintro e w9 ⟨rfl, B9⟩
              have HBB := (HQ8.out.on B9).bx.below
              clear HRT8
              go_wp2
              go_ret
              exact ⟨rfl, below_on HB7.out HBB⟩
    · go_wp2
      go_ret
      exact ⟨rfl, HN4.out.bx.below⟩
  · go_wp2
    go_ret
    exact ⟨rfl, HN2.out.bx.below⟩
end Go.Proofs.Ytmelakljiimlgaa
