/-
  The document's arena: Alloc.
-/
import Derived.Test.YtcoehlnmaehhjaaRfC
import Derived.Test.YtcoehlnmaehhjaaSnA
namespace Go.Proofs.Ytcoehlnmaehhjaa
open Go.RowKit

/-- A slice's elements onto a row of pages. -/
theorem append_pages {ops : Array Oper} {rest : List Oper} {o : Oper} {a : Act} {Q : Exit → Act → World → Prop} {W1 : World} (base : Nat) (hbase : base ≤ W1.heap.size) (hgd : o.guard = none) (s x : Operand) (ho : o.op = .call { callee := .builtin .append, args := #[s, x], argTypes := #[44, 44] })
    (v : Value) (l : List (Nat × List UInt8)) (hs : a.eval s = v) (h : W1.ownsRow base 43 2 v l.length (lcs l)) (hl : l.length ≤ 100000) (ad : Addr) (news : List (Nat × List UInt8)) (m cap : Nat) (hx : a.eval x = .slice (some ad) m cap) (hm : news.length = m) (hml : m ≤ 100000) (hc : ∀ j u, (lcs news)[j]? = some u → W1.cell? (ad.add j) = some u)
    (hK : ∀ v' W', W'.ownsRow base 43 2 v' (l ++ news).length (lcs (l ++ news)) → W1.grownBy W' v.ownBlock → wpList Try.prog ops Q rest (a.put o.dst v') W') : wpList Try.prog ops Q (o :: rest) a W1 := by
  obtain ⟨i, hi, hz⟩ : ∃ i, Try.prog.info? 43 = some i ∧ (i.zero, i.size, i.bytes) = (some (.agg #[.int .i64 0, .string ⟨#[]⟩]), 2, 24) :=
    Option.map_eq_some_iff.1 (show (Try.prog.info? 43).map (fun i => (i.zero, i.size, i.bytes)) = some (some (.agg #[.int .i64 0, .string ⟨#[]⟩]), 2, 24) by kernel_rfl)
  simp only [Prod.mk.injEq] at hz
  obtain ⟨h1, h2, h3⟩ := hz
  refine wpList_append_own (P := Try.prog) W1 hgd s x 44 ho base 43 i _ 2 24 Try.underlying44 hi h1 h2 h3 rfl (by decide) v l.length (lcs l) hs h ad m cap (lcs news) hx (by rw [lcs_length, hm]) hc (one_lcs news) (by unfold maxLen; omega) (by omega) hbase ?_
  intro v' W' hown hg _
  refine hK v' W' ?_ hg
  rw [lcs_append, List.length_append, hm]
  exact hown

theorem append_pages_none {ops : Array Oper} {rest : List Oper} {o : Oper} {a : Act} {Q : Exit → Act → World → Prop} {W1 : World} (base : Nat) (hgd : o.guard = none) (s x : Operand) (ho : o.op = .call { callee := .builtin .append, args := #[s, x], argTypes := #[44, 44] })
    (v : Value) (l : List (Nat × List UInt8)) (hs : a.eval s = v) (h : W1.ownsRow base 43 2 v l.length (lcs l)) (hx : a.eval x = .slice none 0 0) (hK : wpList Try.prog ops Q rest (a.put o.dst v) W1) : wpList Try.prog ops Q (o :: rest) a W1 := by
  obtain ⟨i, hi, _⟩ : ∃ i, Try.prog.info? 43 = some i ∧ i.size = 2 :=
    Option.map_eq_some_iff.1 (show (Try.prog.info? 43).map (fun i => i.size) = some 2 by kernel_rfl)
  refine wpList_plain hgd fun K hK' => ?_
  have hr := run_append_owned_none (P := Try.prog) W1 base 44 o.type 43 i 2 Try.underlying44 hi v l.length (lcs l) h
  unfold Oper.wp execOp
  simp only [ho, resolve, invoke, builtin, Sem.run_bind, Sem.run_pure, Result.andThen_ok, List.map_toArray, List.map_cons, List.map_nil, hs, hx, hr]
  exact hK' _ _ hK

/-- Another row of pages, or of free numbers, of new blocks: the document's arena. -/
theorem RfP.newl {r : Rf} {w w' : World} (h : RfP r w) (hb : Below w.heap.size w w') {v : Value} {L : List (Nat × List UInt8)} (ho : w'.ownsRow w.heap.size 43 2 v L.length (lcs L)) : RfP { r with vl := v, L := L } (w'.setCell ⟨r.p, 0, none⟩ v) ∧ Moves rfSt r { r with vl := v, L := L } w (w'.setCell ⟨r.p, 0, none⟩ v) := by
  have h1 : RfP r w' := rfSt.below h hb
  have hne : ∀ (k : Nat) (cur : Array Value) (t : TypeId), w'.heap[k]? = some (Obj.cells cur t (0, 0)) → t ≠ 47 → (w'.setCell ⟨r.p, 0, none⟩ v).heap[k]? = w'.heap[k]? := fun k cur t hk ht => heap_setCell_other _ _ _ _ fun e => by
    rw [show k = r.p from e, h1.blk] at hk
    simp only [Option.some.injEq, Obj.cells.injEq] at hk
    exact ht hk.2.1.symm
  refine ⟨⟨heap_setCell_same w' r.p 0 _ _ _ h1.blk, ?_, ?_⟩, (Only.of_below (S := r.own) hb).setCell (Or.inr (Or.inl rfl)) _, ?_⟩
  · have ho' : w'.ownsRow 0 43 2 v L.length (lcs L) := by
      refine ⟨ho.1, ?_⟩
      rcases ho.2 with hn | ⟨g, cap, cur, rfl, x1, rest⟩
      · exact .inl hn
      · exact .inr ⟨g, cap, cur, rfl, Nat.zero_le _, rest⟩
    refine owns_of_block ho' fun k hk => ?_
    obtain ⟨cur, hc⟩ := owns_tag ho hk
    exact hne k _ _ hc (by decide)
  · refine owns_of_block h1.rf fun k hk => ?_
    obtain ⟨cur, hc⟩ := owns_tag h1.rf hk
    exact hne k _ _ hc (by decide)
  · rintro k (rfl | hk | hk)
    · exact Or.inl (Or.inl rfl)
    · exact Or.inr (ho.lt k hk).1
    · exact Or.inl (Or.inr (Or.inr hk))

theorem RfP.newf {r : Rf} {w w' : World} (h : RfP r w) (hb : Below w.heap.size w w') {v : Value} {fr : List Nat} (ho : w'.ownsRow w.heap.size 3 1 v fr.length (fr.map nv)) : RfP { r with vf := v, fr := fr } (w'.setCell ⟨r.p, 1, none⟩ v) ∧ Moves rfSt r { r with vf := v, fr := fr } w (w'.setCell ⟨r.p, 1, none⟩ v) := by
  have h1 : RfP r w' := rfSt.below h hb
  have hne : ∀ (k : Nat) (cur : Array Value) (t : TypeId), w'.heap[k]? = some (Obj.cells cur t (0, 0)) → t ≠ 47 → (w'.setCell ⟨r.p, 1, none⟩ v).heap[k]? = w'.heap[k]? := fun k cur t hk ht => heap_setCell_other _ _ _ _ fun e => by
    rw [show k = r.p from e, h1.blk] at hk
    simp only [Option.some.injEq, Obj.cells.injEq] at hk
    exact ht hk.2.1.symm
  refine ⟨⟨heap_setCell_same w' r.p 1 _ _ _ h1.blk, ?_, ?_⟩, (Only.of_below (S := r.own) hb).setCell (Or.inr (Or.inl rfl)) _, ?_⟩
  · refine owns_of_block h1.rl fun k hk => ?_
    obtain ⟨cur, hc⟩ := owns_tag h1.rl hk
    exact hne k _ _ hc (by decide)
  · refine owns_of_block (owns_base ho (Nat.zero_le _)) fun k hk => ?_
    obtain ⟨cur, hc⟩ := owns_tag ho hk
    exact hne k _ _ hc (by decide)
  · rintro k (rfl | hk | hk)
    · exact Or.inl (Or.inl rfl)
    · exact Or.inl (Or.inr (Or.inl hk))
    · exact Or.inr (ho.lt k hk).1

/-- Another number in one of its two last cells. -/
theorem RfP.setn {r : Rf} {w : World} (h : RfP r w) (n : Nat) : (RfP { r with nx := n } (w.setCell ⟨r.p, 2, none⟩ (nv n)) ∧ Moves rfSt r { r with nx := n } w (w.setCell ⟨r.p, 2, none⟩ (nv n))) ∧ (RfP { r with q := n } (w.setCell ⟨r.p, 3, none⟩ (nv n)) ∧ Moves rfSt r { r with q := n } w (w.setCell ⟨r.p, 3, none⟩ (nv n))) := by
  have hne : ∀ (j : Nat) (k : Nat) (cur : Array Value) (t : TypeId), w.heap[k]? = some (Obj.cells cur t (0, 0)) → t ≠ 47 → (w.setCell ⟨r.p, j, none⟩ (nv n)).heap[k]? = w.heap[k]? := fun j k cur t hk ht => heap_setCell_other _ _ _ _ fun e => by
    rw [show k = r.p from e, h.blk] at hk
    simp only [Option.some.injEq, Obj.cells.injEq] at hk
    exact ht hk.2.1.symm
  have hl : ∀ j, (w.setCell ⟨r.p, j, none⟩ (nv n)).ownsRow 0 43 2 r.vl r.L.length (lcs r.L) := fun j => owns_of_block h.rl fun k hk => by
    obtain ⟨cur, hc⟩ := owns_tag h.rl hk
    exact hne j k _ _ hc (by decide)
  have hf : ∀ j, (w.setCell ⟨r.p, j, none⟩ (nv n)).ownsRow 0 3 1 r.vf r.fr.length (r.fr.map nv) := fun j => owns_of_block h.rf fun k hk => by
    obtain ⟨cur, hc⟩ := owns_tag h.rf hk
    exact hne j k _ _ hc (by decide)
  exact ⟨⟨⟨heap_setCell_same w r.p 2 _ _ _ h.blk, hl 2, hf 2⟩, (Only.refl r.own w).setCell (Or.inr (Or.inl rfl)) _, fun k hk => Or.inl hk⟩, ⟨heap_setCell_same w r.p 3 _ _ _ h.blk, hl 3, hf 3⟩, (Only.refl r.own w).setCell (Or.inr (Or.inl rfl)) _, fun k hk => Or.inl hk⟩

set_option maxRecDepth 100000 in
theorem ralloc_full {r : Rf} {w : World} (h : RfP r w) (hl : r.q ≤ r.L.length) : Calls Try.prog 13 #[arV r.p] w fun e w' => e = .returned (.tuple #[.int .i64 0, .int .i64 9]) ∧ Below w.heap.size w w' := by
  obtain ⟨c0, _, _, c3, hp, _⟩ := h.cell
  obtain ⟨al, cl, el, _⟩ := owns_slice h.rl
  rw [el] at c0
  unfold nv at c3
  have hle : (r.q : Int) ≤ (r.L.length : Int) := by omega
  clear h el
  generalize r.L.length = len at *
  generalize r.q = q at *
  unfold arV
  go_enter Try.func13, Try.ntmps13
  go_wp2
  go_quiet (fail)
  go_wp2
  go_ret2
  exact ⟨rfl, below_drewN (Below.refl _ _) _⟩
end Go.Proofs.Ytcoehlnmaehhjaa
