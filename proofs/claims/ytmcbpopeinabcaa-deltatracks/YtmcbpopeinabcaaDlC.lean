/-
  Delta: slices that are appended to; copied and stands of package delta.
-/
import Derived.Maps.AppendAt
import Derived.Sort.Grow
import Derived.Laws.Cover1
import Derived.Test.YtmcbpopeinabcaaDlB
import Derived.Test.YtmcbpopeinabcaaQuietTail
import Derived.Test.YtmcbpopeinabcaaShelf
namespace Go.Proofs.Ytmcbpopeinabcaa
open Go.RowKit

/-- A slice that can be read: m elements, whose cells are these. -/
def Src (W : World) (a : Option Addr) (m c : Nat) (news : List Value) : Prop := (a = none ∧ m = 0 ∧ c = 0 ∧ news = []) ∨ ∃ ad, a = some ad ∧ ∀ j u, news[j]? = some u → W.cell? (ad.add j) = some u

theorem append_src {P : Program} {ops : Array Oper} {rest : List Oper} {o : Oper} {a : Act} {Q : Exit → Act → World → Prop} {W1 : World} {t e : TypeId} {z : Value} {size bytes : Nat} (ht : P.underlying t = some (.slice e)) (hinfo : (P.info? e).map (fun i => (i.zero, i.size, i.bytes)) = some (some z, size, bytes)) (hzs : z.cells.size = size) (hsz : 0 < size) (hby : bytes ≤ 1000)
    (hgd : o.guard = none) (s x : Operand) (ho : o.op = .call { callee := .builtin .append, args := #[s, x], argTypes := #[t, t] })
    (base : Nat) (hbase : base ≤ W1.heap.size) (v : Value) (n : Nat) (xs : List Value) (hs : a.eval s = v) (h : W1.ownsRow base e size v n xs) (b : Option Addr) (m cap : Nat) (news : List Value) (hx : a.eval x = .slice b m cap) (hm : Src W1 b m cap news)
    (hl : news.length = m * size) (h1 : ∀ u ∈ news, u.oneCell' = true) (hn : n + m ≤ 1000000)
    (hK : ∀ v' W', W'.ownsRow base e size v' (n + m) (xs ++ news) → W1.grownBy W' v.ownBlock → (v'.ownBlock = v.ownBlock ∨ v'.ownBlock = some W1.heap.size) → wpList P ops Q rest (a.put o.dst v') W') : wpList P ops Q (o :: rest) a W1 := by
  obtain ⟨i, hi, hz⟩ := Option.map_eq_some_iff.1 hinfo
  simp only [Prod.mk.injEq] at hz
  obtain ⟨h3, h4, h5⟩ := hz
  rcases hm with ⟨rfl, rfl, rfl, rfl⟩ | ⟨ad, rfl, hc⟩
  · exact wpList_append_own_none hgd s x t ho base e i size ht hi v n xs hs h hx (hK v W1 (by rw [List.append_nil]; exact h) ⟨rfl, rfl, rfl, Nat.le_refl _, fun _ _ _ => rfl⟩ (Or.inl rfl))
  · refine wpList_append_own_at (P := P) W1 hgd s x t ho base e i z size bytes ht hi h3 h4 h5 hzs hsz v n xs hs h ad m cap news hx hl hc h1 (by unfold maxLen; omega) ?_ hbase fun v' W' g1 g2 _ g4 => hK v' W' g1 g2 g4
    exact Nat.le_trans (Nat.mul_le_mul hn hby) (by omega)

/-- Values as cells. -/
def vcs (l : List Va) : List Value := l.flatMap vaC

theorem vcs_length (l : List Va) : (vcs l).length = l.length * 3 := by
  induction l with
  | nil => rfl
  | cons v l ih => rw [show vcs (v :: l) = vaC v ++ vcs l from rfl, List.length_append, ih, List.length_cons]; simp [vaC]; omega

theorem vcs_at (l : List Va) : ∀ (j : Nat) (v : Va), l[j]? = some v → (vcs l)[j * 3]? = some (.int .i64 v.k) ∧ (vcs l)[j * 3 + 1]? = some (.int .i64 v.n) ∧ (vcs l)[j * 3 + 2]? = some (.string v.s) := by
  induction l with
  | nil => intro j v h; simp at h
  | cons u l ih =>
    intro j v h
    have e : vcs (u :: l) = .int .i64 u.k :: .int .i64 u.n :: .string u.s :: vcs l := rfl
    cases j with
    | zero =>
      simp at h
      subst h
      rw [e]; exact ⟨rfl, rfl, rfl⟩
    | succ j =>
      have := ih j v (by simpa using h)
      rw [e, show (j + 1) * 3 = j * 3 + 3 by omega]
      exact this

theorem vcs_one {l : List Va} : ∀ u ∈ vcs l, u.oneCell' = true := by
  intro u hu
  obtain ⟨p, _, hp⟩ := List.mem_flatMap.1 hu
  simp [vaC] at hp
  rcases hp with rfl | rfl | rfl <;> rfl

theorem add_none (b o j : Nat) : (⟨b, o, none⟩ : Addr).add j = ⟨b, o + j, none⟩ := by unfold Addr.add; split <;> simp_all

theorem SlV.src {W : World} {a : Option Addr} {l : List Va} (h : SlV W a l) {m c : Nat} (hm : l.length = m) (hc : a = none → c = 0) : Src W a m c (vcs l) := by
  rcases h with rfl | ⟨b, o, rfl, hb, hv⟩
  · cases a with
    | none => exact Or.inl ⟨rfl, by simpa using hm.symm, hc rfl, rfl⟩
    | some ad => exact Or.inr ⟨ad, rfl, fun j u hu => by simp [vcs] at hu⟩
  · refine Or.inr ⟨_, rfl, fun j u hu => ?_⟩
    rw [add_none]
    have hj := (List.getElem?_eq_some_iff.1 hu).1
    rw [vcs_length] at hj
    obtain ⟨x, hx⟩ : ∃ x, l[j / 3]? = some x := ⟨l[j / 3]'(by omega), List.getElem?_eq_getElem _⟩
    obtain ⟨c0, c1, c2⟩ := hv _ x hx
    obtain ⟨g0, g1, g2⟩ := vcs_at l _ x hx
    have : j = j / 3 * 3 ∨ j = j / 3 * 3 + 1 ∨ j = j / 3 * 3 + 2 := by omega
    rcases this with e | e | e
    · rw [e] at hu ⊢
      rw [g0] at hu; cases hu; exact c0
    · rw [e, g1] at hu; cases hu; rw [e, ← Nat.add_assoc]; exact c1
    · rw [e, g2] at hu; cases hu; rw [e, ← Nat.add_assoc]; exact c2

/-- A row of the call's own, read as a slice. -/
theorem owns_sl {W : World} {base : Nat} {a : Option Addr} {n c : Nat} {l : List Va} (h : W.ownsRow base 55 3 (.slice a n c) n (vcs l)) : l.length = n ∧ SlV W a l ∧ (a = none → c = 0) ∧ ∀ b o, a = some ⟨b, o, none⟩ → base ≤ b ∧ b < W.heap.size := by
  have hl : l.length = n := by have := h.1; rw [vcs_length] at this; omega
  refine ⟨hl, ?_, ?_, ?_⟩
  · rcases h.2 with ⟨e, h0⟩ | ⟨g, cap, cur, e, hg, hb, _⟩
    · exact Or.inl (List.length_eq_zero_iff.1 (by omega))
    · cases e
      refine Or.inr ⟨g, 0, rfl, (Array.getElem?_eq_some_iff.1 hb).1, fun j u hu => ?_⟩
      obtain ⟨c0, c1, c2⟩ := vcs_at l j u hu
      have hc : ∀ t x, (vcs l)[t]? = some x → W.cell? ⟨g, 0 + t, none⟩ = some x := fun t x hx => by
        have := World.ownsRow.cells h (g := g) rfl t x hx
        rwa [add_none] at this
      exact ⟨hc _ _ c0, by rw [Nat.add_assoc]; exact hc _ _ c1, by rw [Nat.add_assoc]; exact hc _ _ c2⟩
  · rintro rfl
    rcases h.2 with ⟨e, h0⟩ | ⟨g, cap, cur, e, _⟩
    · injection e
    · injection e with e; cases e
  · rintro b o rfl
    have := World.ownsRow.lt h b rfl
    exact this

theorem infoVal : (Try.prog.info? 55).map (fun i => (i.zero, i.size, i.bytes)) = some (some (.agg #[.int .i64 0, .int .i64 0, .string ⟨#[]⟩]), 3, 32) := by kernel_rfl

theorem infoChg : (Try.prog.info? 27).map (fun i => (i.zero, i.size, i.bytes)) = some (some (.agg #[.string ⟨#[]⟩, .int .i64 0, .slice none 0 0, .slice none 0 0]), 4, 72) := by kernel_rfl

/-- What copying makes: the same change, its lists in rows of its own. -/
structure Copied (w w' : World) (r r' : RC) (c : Chg) : Prop where
  t : r'.t = r.t
  id : r'.id = r.id
  below : Below w.heap.size w w'
  o : w'.ownsRow w.heap.size 55 3 (.slice r'.oa r'.ol r'.oc) r'.ol (vcs c.o)
  n : w'.ownsRow w.heap.size 55 3 (.slice r'.na r'.nl r'.nc) r'.nl (vcs c.n)
  apart : ∀ b, Value.ownBlock (.slice r'.oa r'.ol r'.oc) = some b → Value.ownBlock (.slice r'.na r'.nl r'.nc) = some b → False

/-- A block of four cells. -/
def Box4 (W : World) (b : Nat) (x0 x1 x2 x3 : Value) : Prop := W.heap[b]? = some (.cells #[x0, x1, x2, x3] 27 (0, 0))

theorem Box4.facts {W : World} {b : Nat} {x0 x1 x2 x3 : Value} (h : Box4 W b x0 x1 x2 x3) : W.cell? ⟨b, 0, none⟩ = some x0 ∧ W.cell? ⟨b, 1, none⟩ = some x1 ∧ W.cell? ⟨b, 2, none⟩ = some x2 ∧ W.cell? ⟨b, 3, none⟩ = some x3 ∧
    W.frozen? ⟨b, 0, none⟩ = false ∧ W.frozen? ⟨b, 1, none⟩ = false ∧ W.frozen? ⟨b, 2, none⟩ = false ∧ W.frozen? ⟨b, 3, none⟩ = false ∧ b < W.heap.size :=
  ⟨cell_of_row _ _ _ _ _ _ h, cell_of_row _ _ _ _ _ _ h, cell_of_row _ _ _ _ _ _ h, cell_of_row _ _ _ _ _ _ h, frozen_of_row _ _ _ _ _ h, frozen_of_row _ _ _ _ _ h, frozen_of_row _ _ _ _ _ h, frozen_of_row _ _ _ _ _ h, (Array.getElem?_eq_some_iff.1 h).1⟩

theorem to_letter {p F : World → Prop} {W0 : World} (h : F W0) (k : ∀ W, F W → p W) : p W0 := k W0 h

theorem grown_none {w w' : World} (h : w.grownBy w' none) : Below w.heap.size w w' := ⟨h.os, h.tape, h.output, h.size, fun k hk => h.block k hk (by simp)⟩

theorem owns_below {W W' : World} {base : Nat} {e : TypeId} {size : Nat} {v : Value} {n : Nat} {xs : List Value} (h : W.ownsRow base e size v n xs) (hb : ∀ q, v.ownBlock = some q → W'.heap[q]? = W.heap[q]?) : W'.ownsRow base e size v n xs := by
  refine ⟨h.1, ?_⟩
  rcases h.2 with hn | ⟨g, cap, cur, rfl, hbg, hgg, rest⟩
  · exact .inl hn
  · exact .inr ⟨g, cap, cur, rfl, hbg, by rw [hb g rfl]; exact hgg, rest⟩

theorem owns_mono {W : World} {base base' : Nat} {e : TypeId} {size : Nat} {v : Value} {n : Nat} {xs : List Value} (h : W.ownsRow base e size v n xs) (hb : ∀ q, v.ownBlock = some q → base' ≤ q) : W.ownsRow base' e size v n xs := by
  refine ⟨h.1, ?_⟩
  rcases h.2 with hn | ⟨g, cap, cur, rfl, hbg, rest⟩
  · exact .inl hn
  · exact .inr ⟨g, cap, cur, rfl, hb g rfl, rest⟩

theorem owns_slice {W : World} {base : Nat} {e : TypeId} {size : Nat} {v : Value} {n : Nat} {xs : List Value} (h : W.ownsRow base e size v n xs) : ∃ a c, v = .slice a n c := by
  rcases h.2 with ⟨rfl, h0⟩ | ⟨g, cap, cur, rfl, _⟩
  · exact ⟨none, 0, by rw [h0]⟩
  · exact ⟨_, _, rfl⟩

theorem go_heap_new (w : World) (o : Obj) : (w.alloc o).heap[w.heap.size]? = some o := heap_alloc_new w o
theorem go_heap_new' (w : World) (o : Obj) {k : Nat} (h : k = w.heap.size) : (w.alloc o).heap[k]? = some o := by rw [h]; exact go_heap_new w o

/-- Where the copying stands behind the first append. -/
structure Cp (w : World) (t : ByteArray) (id : Int) (v nv : Value) (W : World) : Prop where
  b : Box4 W w.heap.size (.string t) (.int .i64 id) v nv
  z : Box4 W (w.heap.size + 1) (.string ⟨#[]⟩) (.int .i64 0) (.slice none 0 0) (.slice none 0 0)
  below : Below w.heap.size w W

theorem cp_first {w W1 : World} {t : ByteArray} {id : Int} {ov nv v1 : Value} {n : Nat} {xs : List Value} (G : ((w.alloc (.cells #[.string t, .int .i64 id, ov, nv] 27)).alloc (.cells #[.string ⟨#[]⟩, .int .i64 0, .slice none 0 0, .slice none 0 0] 27)).grownBy W1 none)
    (O : W1.ownsRow w.heap.size 55 3 v1 n xs) (A : v1.ownBlock = none ∨ v1.ownBlock = some (w.heap.size + 1 + 1)) :
    Cp w t id ov nv W1 ∧ W1.ownsRow (w.heap.size + 2) 55 3 v1 n xs := by
  have hs := G.size
  simp at hs
  refine ⟨⟨?_, ?_, ?_⟩, owns_mono O fun q hq => ?_⟩
  · unfold Box4; rw [G.block _ (by simp; omega) (by simp), Below.heap_alloc _ _ _ (by simp), go_heap_new]
  · unfold Box4; rw [G.block _ (by simp) (by simp)]; exact go_heap_new' _ _ (by simp)
  · exact ((below_alloc w _).alloc (by simp) _).trans ((grown_none G).mono (by simp; omega))
  · rcases A with e | e
    · rw [e] at hq; cases hq
    · rw [e] at hq; simp at hq; omega

theorem Cp.store {w W1 : World} {t : ByteArray} {id : Int} {ov nv : Value} (h : Cp w t id ov nv W1) (v : Value) : Cp w t id v nv (W1.setCell ⟨w.heap.size, 2, none⟩ v) := by
  refine ⟨?_, ?_, ?_⟩
  · unfold Box4; rw [heap_setCell_same _ _ _ _ _ _ h.b]; rfl
  · unfold Box4; rw [heap_setCell_other _ _ _ _ (by simp)]; exact h.z
  · exact h.below.setCell (Nat.le_refl _) _

theorem cp_second {w W2 W3 : World} {t : ByteArray} {id : Int} {ov nv v : Value} {a : Option Addr} {n c m : Nat} {xs ys : List Value} (C : Cp w t id ov nv W2) (O : W2.ownsRow (w.heap.size + 2) 55 3 (.slice a n c) n xs) (O3 : W3.ownsRow w.heap.size 55 3 v m ys) (G : W2.grownBy W3 (Value.slice none 0 0).ownBlock) (A : v.ownBlock = (Value.slice none 0 0).ownBlock ∨ v.ownBlock = some W2.heap.size) :
    Cp w t id ov nv W3 ∧ W3.ownsRow (w.heap.size + 2) 55 3 (.slice a n c) n xs ∧ W3.ownsRow (w.heap.size + 2) 55 3 v m ys ∧ ∀ b, Value.ownBlock (.slice a n c) = some b → v.ownBlock = some b → False := by
  have hb := C.b.facts.2.2.2.2.2.2.2.2
  have hz := C.z.facts.2.2.2.2.2.2.2.2
  have GB := grown_none G
  have hA : ∀ q, v.ownBlock = some q → q = W2.heap.size := fun q hq => by
    rcases A with e | e
    · rw [e] at hq; cases hq
    · rw [e] at hq; cases hq; rfl
  refine ⟨⟨?_, ?_, ?_⟩, owns_below O fun q hq => GB.block q (World.ownsRow.lt O q hq).2, owns_mono O3 fun q hq => ?_, fun b h1 h2 => ?_⟩
  · unfold Box4; rw [GB.block _ hb]; exact C.b
  · unfold Box4; rw [GB.block _ hz]; exact C.z
  · exact below_on C.below GB
  · have := hA q hq; omega
  · have := hA b h2; have := (World.ownsRow.lt O b h1).2; omega

theorem cp_end {w W4 : World} {t : ByteArray} {id : Int} {ov nv v1 v3 : Value} {n m : Nat} {xs ys : List Value} (C : Cp w t id ov nv W4) (O4 : W4.ownsRow (w.heap.size + 2) 55 3 v1 n xs) (O5 : W4.ownsRow (w.heap.size + 2) 55 3 v3 m ys) :
    Below w.heap.size w (((((W4.setCell { block := w.heap.size, off := 3 } v3).setCell { block := w.heap.size + 1, off := 0 } (.string t)).setCell { block := w.heap.size + 1, off := 1 } (.int .i64 id)).setCell { block := w.heap.size + 1, off := 2 } v1).setCell { block := w.heap.size + 1, off := 3 } v3) ∧
    Box4 (((((W4.setCell { block := w.heap.size, off := 3 } v3).setCell { block := w.heap.size + 1, off := 0 } (.string t)).setCell { block := w.heap.size + 1, off := 1 } (.int .i64 id)).setCell { block := w.heap.size + 1, off := 2 } v1).setCell { block := w.heap.size + 1, off := 3 } v3) (w.heap.size + 1) (.string t) (.int .i64 id) v1 v3 ∧
    (((((W4.setCell { block := w.heap.size, off := 3 } v3).setCell { block := w.heap.size + 1, off := 0 } (.string t)).setCell { block := w.heap.size + 1, off := 1 } (.int .i64 id)).setCell { block := w.heap.size + 1, off := 2 } v1).setCell { block := w.heap.size + 1, off := 3 } v3).ownsRow w.heap.size 55 3 v1 n xs ∧
    (((((W4.setCell { block := w.heap.size, off := 3 } v3).setCell { block := w.heap.size + 1, off := 0 } (.string t)).setCell { block := w.heap.size + 1, off := 1 } (.int .i64 id)).setCell { block := w.heap.size + 1, off := 2 } v1).setCell { block := w.heap.size + 1, off := 3 } v3).ownsRow w.heap.size 55 3 v3 m ys := by
  have far : ∀ q, w.heap.size + 2 ≤ q → (((((W4.setCell { block := w.heap.size, off := 3 } v3).setCell { block := w.heap.size + 1, off := 0 } (.string t)).setCell { block := w.heap.size + 1, off := 1 } (.int .i64 id)).setCell
      { block := w.heap.size + 1, off := 2 } v1).setCell { block := w.heap.size + 1, off := 3 } v3).heap[q]? = W4.heap[q]? := fun q hq => by
    rw [heap_setCell_other _ _ _ _ (by simp; omega), heap_setCell_other _ _ _ _ (by simp; omega), heap_setCell_other _ _ _ _ (by simp; omega), heap_setCell_other _ _ _ _ (by simp; omega), heap_setCell_other _ _ _ _ (by simp; omega)]
  refine ⟨((((C.below.setCell (by simp) _).setCell (by simp) _).setCell (by simp) _).setCell (by simp) _).setCell (by simp) _, ?_, ?_, ?_⟩
  · have h0 : (W4.setCell { block := w.heap.size, off := 3 } v3).heap[w.heap.size + 1]? = some (.cells #[.string ⟨#[]⟩, .int .i64 0, .slice none 0 0, .slice none 0 0] 27 (0, 0)) := by
      rw [heap_setCell_other _ _ _ _ (by simp)]; exact C.z
    have h1 := heap_setCell_same _ _ 0 _ _ (.string t) h0
    have h2 := heap_setCell_same _ _ 1 _ _ (.int .i64 id) h1
    have h3 := heap_setCell_same _ _ 2 _ _ v1 h2
    exact heap_setCell_same _ _ 3 _ _ v3 h3
  · exact owns_mono (owns_below O4 fun q hq => far q (World.ownsRow.lt O4 q hq).1) fun q hq => by have := (World.ownsRow.lt O4 q hq).1; omega
  · exact owns_mono (owns_below O5 fun q hq => far q (World.ownsRow.lt O5 q hq).1) fun q hq => by have := (World.ownsRow.lt O5 q hq).1; omega

set_option maxRecDepth 100000 in
set_option maxHeartbeats 1000000 in
theorem copied_walk {r : RC} {c : Chg} {w : World} (h : Means w r c) : Calls Try.prog 32 #[rcV r] w fun e w' => ∃ r', e = .returned (rcV r') ∧ Copied w w' r r' c := by
  obtain ⟨t, id, oa, ol, oc, na, nl, nc⟩ := r
  obtain ⟨-, -, hol, hnl, hob, hnb, ho, hn, hoc, hnc, -, -⟩ := h
  dsimp only at *
  unfold rcV
  dsimp only
  go_enter Try.func32, Try.ntmps32
  have H1 : ∀ x y, Src ((w.alloc x).alloc y) oa ol oc (vcs c.o) := fun x y => (ho.below ((below_alloc w x).alloc (by simp) y)).src hol hoc
  have H2 : Hid (∀ W, Below w.heap.size w W → Src W na nl nc (vcs c.n)) := fun W hW => (hn.below hW).src hnl hnc
  go_wp2_with (first | (at_builtin; refine append_src Try.underlying25 infoVal rfl (by decide) (by decide) rfl _ _ rfl w.heap.size (by simp; omega) _ 0 [] rfl (World.ownsRow_nil _ _ _ _) oa ol oc (vcs c.o) rfl (H1 _ _) (by rw [vcs_length, hol]) vcs_one (by omega) ?_) | go_in)
  intro v1 W1 O1 G1 A1
  obtain ⟨C1, O1'⟩ := cp_first G1 O1 A1
  clear O1 G1 A1 H1
  obtain ⟨oa1, oc1, rfl⟩ := owns_slice O1'
  have HO1 := dhid O1'
  have HC1 := dhid C1
  obtain ⟨x0, x1, x2, x3, y0, y1, y2, y3, xl⟩ := C1.b.facts
  clear O1' C1
  go_wp2_with (first | (at_builtin; revert HC1) | go_in)
  intro HC1
  refine to_letter (F := fun W => Cp w t id (.slice oa1 ol oc1) (.slice na nl nc) W ∧ W.ownsRow (w.heap.size + 2) 55 3 (.slice oa1 ol oc1) ol (vcs c.o)) ⟨HC1.out.store _, owns_below HO1.out fun q hq => heap_setCell_other _ _ _ _ ?_⟩ ?_
  · have := (World.ownsRow.lt HO1.out q hq).1
    show q ≠ w.heap.size
    omega
  rintro W2 ⟨C2, O2⟩
  clear x0 x1 x2 x3 y0 y1 y2 y3 xl HC1 HO1
  have H2' := H2.out W2 C2.below
  have HO2 := dhid O2
  have HC2 := dhid C2
  clear O2 H2
  have hz2 : w.heap.size ≤ W2.heap.size := C2.below.size
  clear C2
  refine append_src Try.underlying25 infoVal rfl (by decide) (by decide) rfl _ _ rfl w.heap.size hz2 _ 0 [] rfl (World.ownsRow_nil _ _ _ _) na nl nc (vcs c.n) rfl H2' (by rw [vcs_length, hnl]) vcs_one (by omega) ?_
  intro v3 W3 O3 G3 A3
  rw [List.nil_append, Nat.zero_add] at O3
  obtain ⟨oa3, oc3, rfl⟩ := owns_slice O3
  refine to_letter (F := fun W => Cp w t id (.slice oa1 ol oc1) (.slice na nl nc) W ∧ W.ownsRow (w.heap.size + 2) 55 3 (.slice oa1 ol oc1) ol (vcs c.o) ∧ W.ownsRow (w.heap.size + 2) 55 3 (.slice oa3 nl oc3) nl (vcs c.n) ∧ ∀ b, Value.ownBlock (.slice oa1 ol oc1) = some b → Value.ownBlock (.slice oa3 nl oc3) = some b → False) (cp_second HC2.out HO2.out O3 G3 A3) ?_
  clear O3 G3 A3 HO2 HC2 H2' hz2
  rintro W4 ⟨C4, O4, O5, N⟩
  obtain ⟨x0, x1, x2, x3, y0, y1, y2, y3, xl⟩ := C4.b.facts
  obtain ⟨x0', x1', x2', x3', y0', y1', y2', y3', xl'⟩ := C4.z.facts
  have HX := dhid C4
  have HO4 := dhid O4
  have HO5 := dhid O5
  have HN := dhid N
  clear C4 O4 O5 N
  go_wp2
  refine to_letter (F := fun W => Below w.heap.size w W ∧ Box4 W (w.heap.size + 1) (.string t) (.int .i64 id) (.slice oa1 ol oc1) (.slice oa3 nl oc3) ∧ W.ownsRow w.heap.size 55 3 (.slice oa1 ol oc1) ol (vcs c.o) ∧ W.ownsRow w.heap.size 55 3 (.slice oa3 nl oc3) nl (vcs c.n)) (cp_end HX.out HO4.out HO5.out) ?_
  clear x0 x1 x2 x3 y0 y1 y2 y3 xl x0' x1' x2' x3' y0' y1' y2' y3' xl' HX HO4 HO5
  rintro W6 ⟨B6, C6, O6, O7⟩
  obtain ⟨x0, x1, x2, x3, -⟩ := C6.facts
  exact bodyPost_ret (v := rcV ⟨t, id, oa1, ol, oc1, oa3, nl, oc3⟩) (by simp [results, Try.results32, go_sem, rcV, x0, x1, x2, x3]) rfl ⟨⟨t, id, oa1, ol, oc1, oa3, nl, oc3⟩, rfl, rfl, rfl, B6, O6, O7, HN.out⟩

/-- What is copied means the same. -/
theorem Copied.means {w w' : World} {r r' : RC} {c : Chg} (h : Copied w w' r r' c) (hm : Means w r c) : Means w' r' c := by
  obtain ⟨o1, o2, o3, o4⟩ := owns_sl h.o
  obtain ⟨n1, n2, n3, n4⟩ := owns_sl h.n
  exact ⟨h.t.trans hm.t, h.id.trans hm.id, o1, n1, by have := hm.ol; have := hm.ob; omega, by have := hm.nl; have := hm.nb; omega, o2, n2, o3, n3, by rw [h.t]; exact hm.tb, by rw [h.id]; exact hm.ib⟩

def or2 (x y : Int) : Int := if x == 0 then y else x

theorem or2_walk (b : Nat) (x y : Int) (w : World) (h0 : w.cell? ⟨b, 0, none⟩ = some (.int .i64 x)) (h1 : w.cell? ⟨b, 1, none⟩ = some (.int .i64 y)) :
    Calls Try.prog 36 #[.slice (some ⟨b, 0, none⟩) 2 2] w fun e w' => e = .returned (.int .i64 (or2 x y)) ∧ w' = w := by
  go_enter Try.func36, Try.ntmps36
  go_wp2
  go_loop [8] (fun i => i = .int .i64 0 ∨ (i = .int .i64 1 ∧ (x == 0) = true) ∨ (i = .int .i64 2 ∧ (x == 0) = true ∧ (y == 0) = true)) (fun i => 2 - (intOf i).toNat)
  case atStart => exact Or.inl rfl
  case round =>
    rcases hrel with rfl | ⟨rfl, hx⟩ | ⟨rfl, hx, hy⟩
    · cases hx : (x == 0)
      · go_wp2
        go_ret
        exact ⟨by simp [or2, hx], rfl⟩
      · go_wp2
        exact ⟨Or.inr (Or.inl ⟨rfl, trivial⟩), by decide⟩
    · cases hy : (y == 0)
      · go_wp2
        go_ret
        exact ⟨by simp [or2, hx], rfl⟩
      · go_wp2
        exact ⟨Or.inr (Or.inr ⟨rfl, hx, trivial⟩), by decide⟩
    · go_wp2
      go_ret
      have : y = 0 := by simpa using hy
      exact ⟨by simp [or2, hx, this], rfl⟩

/-- How two changes' rows stand. -/
def standI (x y : RC) : Int := or2 (Lib.compareBytes x.t.data.toList y.t.data.toList) (Lib.compareInt x.id y.id)

theorem grow_of (w : World) (x y z : Obj) (n : Nat) : ∃ q os, (((w.alloc x).alloc y).drewN n).alloc z = Sort.grow (w.drewN q) os :=
  ⟨n, #[x, y, z], by rw [Sort.alloc_eq_grow, Sort.alloc_eq_grow, Sort.alloc_eq_grow, Sort.grow_grow, show (Sort.grow w (#[x] ++ #[y])).drewN n = Sort.grow (w.drewN n) (#[x] ++ #[y]) from rfl, Sort.grow_grow]; rfl⟩

set_option maxRecDepth 100000 in
theorem stands_walk (x y : RC) (w : World) : Calls Try.prog 31 #[rcV x, rcV y] w fun e w' => e = .returned (.int .i64 (standI x y)) ∧ ∃ q os, w' = Sort.grow (w.drewN q) os := by
  obtain ⟨xt, xid, xo, xl, xc, xn, xm, xd⟩ := x
  obtain ⟨yt, yid, yo, yl, yc, yn, ym, yd⟩ := y
  unfold standI rcV
  dsimp only
  go_enter Try.func31, Try.ntmps31
  go_wp2
  refine wp_region_quiet_tail (fun w' => ∃ n, w' = World.drewN _ n) 10 (by kernel_rfl) (by kernel_rfl) ⟨1, rfl⟩ ?_
  simp only [List.take_succ_cons, List.take_zero, List.drop_succ_cons, List.drop_zero]
  repeat (go_big_quiet_step (first | (go_at_call 38; exact Calls.quiet_of_same (Try.cmp_Compare_int _ _ _)) | (go_at_call 37; exact Calls.quiet_of_same (Try.strings_Compare _ _ _))))
  refine wpQuiet_nil ?_
  rintro _ ⟨nq, rfl⟩
  go_wp2_with (go_at_call 36; refine (or2_walk _ (Lib.compareBytes xt.data.toList yt.data.toList) (Lib.compareInt xid yid) _ (by simp [go_sem]) (by simp [go_sem])).mono ?_; rintro e w' ⟨rfl, rfl⟩)
  go_ret
  exact ⟨rfl, grow_of _ _ _ _ _⟩
end Go.Proofs.Ytmcbpopeinabcaa
