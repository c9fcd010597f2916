/-
  Undo: what stands in UndoPlays: the program's log, the document's, side by side.
-/
import Derived.Test.YtdiagnmkfnhnjaaUdN
import Derived.Test.YtdiagnmkfnhnjaaUdI
import Derived.Test.YtdiagnmkfnhnjaaTwoC
namespace Go.Proofs.Ytdiagnmkfnhnjaa
open Go.RowKit Rw

/-- What stands at a round's begin. -/
structure PlI (w : World) (l d q : Nat) (v s : Value) (L : List PE) (dv : Value) (D : List DI) (W : World) : Prop where
  lg : Lg w.heap.size l q v s L (svp 0 D) W
  dl : DLg w.heap.size d q dv D W
  below : Below w.heap.size w W
  all : ∀ x ∈ D, x.b = false → MeansE w x.p.1 x.p.2
  same : L.map (·.2) = (ens D).map (·.2)

theorem PlI.on {w : World} {l d q : Nat} {v s : Value} {L : List PE} {dv : Value} {D : List DI} {W W' : World} (h : PlI w l d q v s L dv D W) (hb : Below W.heap.size W W') : PlI w l d q v s L dv D W' :=
  ⟨h.lg.on hb, h.dl.on hb, below_on h.below hb h.below.size, h.all, h.same⟩

theorem PlI.len {w : World} {l d q : Nat} {v s : Value} {L : List PE} {dv : Value} {D : List DI} {W : World} (h : PlI w l d q v s L dv D W) : L.length = (ens D).length := by
  have := congrArg List.length h.same
  simpa using this

/-- What a call of the program's log leaves of the document's. -/
theorem DLg.kept {B d q l lq : Nat} {v s dv : Value} {L : List PE} {S : List Sv} {D : List DI} {W W' : World} (h : DLg B d q dv D W) (hl : Lg B l lq v s L S W) (hk : Keeps l v s W W') : DLg B d q dv D W' :=
  h.kind fun _ _ _ hg he => hl.kept hk hg (by rcases he with rfl | rfl <;> decide) (by rcases he with rfl | rfl <;> decide) (by rcases he with rfl | rfl <;> decide)

/-- What a call of the document's log leaves of the program's. -/
theorem Lg.doc {B d q l lq : Nat} {v s dv : Value} {L : List PE} {S : List Sv} {D : List DI} {W W' : World} (hl : Lg B l lq v s L S W) (h : DLg B d q dv D W) (hk : KeepsD d W W') : Lg B l lq v s L S W' := by
  have hne : ∀ {g e : Nat} {cur : Array Value}, W.heap[g]? = some (Obj.cells cur e (0, 0)) → e ≠ 32 → W'.heap[g]? = W.heap[g]? := fun hg he => hk _ (Array.getElem?_eq_some_iff.1 hg).1 (by rintro rfl; rw [h.box] at hg; cases hg; exact he rfl)
  refine hl.keep (hne hl.box (by decide)) (fun p hp => ?_) (fun p hp => ?_) (hl.lone.kind fun p cur hp => hne hp (by decide))
  · obtain ⟨cur, hc⟩ := owns_block hl.own hp; exact hne hc (by decide)
  · obtain ⟨cur, hc⟩ := owns_block hl.sav hp; exact hne hc (by decide)

theorem LoneE.doc {B d q : Nat} {dv : Value} {D : List DI} {N : List PE} {W W' : World} (hN : LoneE W N) (h : DLg B d q dv D W) (hk : KeepsD d W W') : LoneE W' N :=
  hN.kind fun p _ hp => hk p (Array.getElem?_eq_some_iff.1 hp).1 (by rintro rfl; rw [h.box] at hp; cases hp)

theorem own_doc {B d q : Nat} {dv : Value} {D : List DI} {W W' : World} {b e z n : Nat} {u : Value} {xs : List Value} (o : W.ownsRow b e z u n xs) (h : DLg B d q dv D W) (hk : KeepsD d W W') (he : e ≠ 32) : W'.ownsRow b e z u n xs :=
  owns_below o fun p hp => by
    obtain ⟨cur, hc⟩ := owns_block o hp
    exact hk p (Array.getElem?_eq_some_iff.1 hc).1 (by rintro rfl; rw [h.box] at hc; cases hc; exact he rfl)

/-- Both have put an entry. -/
theorem PlI.add {w : World} {l d q : Nat} {v s v' dv dv' : Value} {L : List PE} {D : List DI} {r r' : RE} {c : En} {W W1 W2 : World} (h : PlI w l d q v s L dv D W) (hl : Lg w.heap.size l q v' s (L ++ [(r', c)]) (svp 0 D) W1) (b1 : Below w.heap.size W W1) (k1 : Keeps l v s W W1) (o : DocO w.heap.size d q dv' (D ++ [⟨false, ⟨#[]⟩, (r, c)⟩]) W1 W2) (hm : MeansE w r c) :
    PlI w l d q v' s (L ++ [(r', c)]) dv' (D ++ [⟨false, ⟨#[]⟩, (r, c)⟩]) W2 := by
  have d1 := h.dl.kept h.lg k1
  refine ⟨?_, o.dl, (h.below.trans b1).trans o.below, fun x hx hb => ?_, ?_⟩
  · rw [svp_snoc]; exact hl.doc d1 o.keeps
  · rcases List.mem_append.1 hx with hx | hx
    · exact h.all x hx hb
    · simp at hx; subst hx; exact hm
  · rw [ens_snoc]
    simp [h.same]

/-- Both have put a savepoint. -/
theorem PlI.save {w : World} {l d q : Nat} {v s s' dv dv' : Value} {L : List PE} {D : List DI} {name : ByteArray} {W W1 W2 : World} (h : PlI w l d q v s L dv D W) (hl : Lg w.heap.size l q v s' L (svp 0 D ++ [(name, L.length)]) W1) (b1 : Below w.heap.size W W1) (k1 : Keeps l v s W W1) (o : DocO w.heap.size d q dv' (D ++ [⟨true, name, zE⟩]) W1 W2) :
    PlI w l d q v s' L dv' (D ++ [⟨true, name, zE⟩]) W2 := by
  have d1 := h.dl.kept h.lg k1
  refine ⟨?_, o.dl, (h.below.trans b1).trans o.below, fun x hx hb => ?_, ?_⟩
  · rw [svp_snoc, if_pos rfl, ← h.len]; exact hl.doc d1 o.keeps
  · rcases List.mem_append.1 hx with hx | hx
    · exact h.all x hx hb
    · simp at hx; subst hx; cases hb
  · rw [ens_snoc]
    simp [h.same]

/-- The program's log was cut; the document's not yet. -/
structure CutA (w : World) (l d q : Nat) (v' s' dv : Value) (L : List PE) (D : List DI) (n : Nat) (S' : List Sv) (W : World) : Prop where
  lg : Lg w.heap.size l q v' s' (L.take n) S' W
  dl : DLg w.heap.size d q dv D W
  below : Below w.heap.size w W
  lone : LoneE W L

theorem CutA.on {w : World} {l d q : Nat} {v' s' dv : Value} {L : List PE} {D : List DI} {n : Nat} {S' : List Sv} {W W' : World} (h : CutA w l d q v' s' dv L D n S' W) (hb : Below W.heap.size W W') : CutA w l d q v' s' dv L D n S' W' :=
  ⟨h.lg.on hb, h.dl.on hb, below_on h.below hb h.below.size, h.lone.on hb⟩

theorem PlI.cutA {w : World} {l d q : Nat} {v s v' s' dv : Value} {L : List PE} {D : List DI} {n : Nat} {S' : List Sv} {W W1 : World} (h : PlI w l d q v s L dv D W) (hl : Lg w.heap.size l q v' s' (L.take n) S' W1) (b1 : Below w.heap.size W W1) (k1 : Keeps l v s W W1) (hL : LoneE W1 L) : CutA w l d q v' s' dv L D n S' W1 :=
  ⟨hl, h.dl.kept h.lg k1, h.below.trans b1, hL⟩

/-- Both were cut. -/
theorem CutA.both {w : World} {l d q : Nat} {v s v' s' dv dv' : Value} {L : List PE} {D : List DI} {n j : Nat} {W W1 W2 : World} (h0 : PlI w l d q v s L dv D W) (h : CutA w l d q v' s' dv L D n (svp 0 (D.take j)) W1) (o : DocO w.heap.size d q dv' (D.take j) W1 W2) (e : ens (D.take j) = (ens D).take n) : PlI w l d q v' s' (L.take n) dv' (D.take j) W2 ∧ LoneE W2 L := by
  refine ⟨⟨h.lg.doc h.dl o.keeps, o.dl, h.below.trans o.below, fun x hx => h0.all x (List.mem_of_mem_take hx), ?_⟩, h.lone.doc h.dl o.keeps⟩
  rw [e, List.map_take, List.map_take, h0.same]

/-- What was taken off both means the same. -/
theorem PlI.taken {w : World} {l d q : Nat} {v s dv : Value} {L : List PE} {D : List DI} {n : Nat} {W : World} (h : PlI w l d q v s L dv D W) : (L.drop n).reverse.map (·.2) = ((ens D).drop n).reverse.map (·.2) := by
  rw [List.map_reverse, List.map_reverse, List.map_drop, List.map_drop, h.same]

theorem PlI.means {w : World} {l d q : Nat} {v s dv : Value} {L : List PE} {D : List DI} {W W' : World} (h : PlI w l d q v s L dv D W) (hb : Below w.heap.size w W') {n : Nat} : ∀ x ∈ ((ens D).drop n).reverse, MeansE W' x.1 x.2 := fun x hx => by
  obtain ⟨y, hy, g1, rfl⟩ := ens_mem D x (List.mem_of_mem_drop (List.mem_reverse.1 hx))
  exact (h.all y hy g1).below hb

theorem LoneE.taken {W : World} {L : List PE} (h : LoneE W L) {n : Nat} : ∀ x ∈ (L.drop n).reverse, MeansE W x.1 x.2 := fun x hx => h.all x (List.mem_of_mem_drop (List.mem_reverse.1 hx))

theorem bk_cases (name : ByteArray) : ∀ D : List DI, (∀ x ∈ D, x.b = true → x.nm ≠ name) ∨ ∃ i, BkI D name i
  | [] => Or.inl fun _ h => (by cases h)
  | x :: D => by
    rcases bk_cases name D with h | ⟨i, y, hy, h1, h2, h3⟩
    · by_cases hx : x.b = true ∧ x.nm = name
      · refine Or.inr ⟨0, x, rfl, hx.1, hx.2, fun j y hj hy hb => ?_⟩
        obtain ⟨k, rfl⟩ : ∃ k, j = k + 1 := ⟨j - 1, by omega⟩
        exact h y (List.mem_of_getElem? (by simpa using hy)) hb
      · refine Or.inl fun y hy hb => ?_
        rcases List.mem_cons.1 hy with rfl | hy
        · exact fun e => hx ⟨hb, e⟩
        · exact h y hy hb
    · refine Or.inr ⟨i + 1, y, by simpa using hy, h1, h2, fun j z hj hz hb => ?_⟩
      obtain ⟨k, rfl⟩ : ∃ k, j = k + 1 := ⟨j - 1, by omega⟩
      exact h3 k z (by omega) (by simpa using hz) hb

theorem BkI.uniq {D : List DI} {name : ByteArray} {i j : Nat} (h : BkI D name i) (k : BkI D name j) : i = j := by
  obtain ⟨x, hx, h1, h2, h3⟩ := h
  obtain ⟨y, hy, k1, k2, k3⟩ := k
  rcases Nat.lt_trichotomy i j with g | g | g
  · exact absurd k2 (h3 j y g hy k1)
  · exact g
  · exact absurd h2 (k3 i x g hx h1)

theorem backE_none {B l q : Nat} {v s : Value} {L : List PE} {S : List Sv} {name : ByteArray} {w w' : World} {e : Ending} (h : BackE B l q v s L S name w e w') (hn : ∀ x ∈ S, x.1 ≠ name) : e = .returned (.tuple #[.slice none 0 0, .int .i64 14]) ∧ w' = w := by
  rcases h with ⟨h1, -, h3⟩ | ⟨k, x, _, _, _, _, hx, hxn, _⟩
  · exact ⟨h1, h3⟩
  · exact absurd hxn (hn x (List.mem_of_getElem? hx))

theorem rbackE_none {B d q : Nat} {D : List DI} {name : ByteArray} {w w' : World} {e : Ending} (h : RBackE B d q D name w e w') (hn : ∀ x ∈ D, x.b = true → x.nm ≠ name) : e = .returned (.tuple #[.slice none 0 0, .int .i64 14]) ∧ w' = w := by
  rcases h with ⟨h1, -, h3⟩ | ⟨i, _, _, _, ⟨x, hx, hb, hxn, _⟩, _⟩
  · exact ⟨h1, h3⟩
  · exact absurd hxn (hn x (List.mem_of_getElem? hx) hb)

theorem rbackE_some {B d q : Nat} {D : List DI} {name : ByteArray} {w w' : World} {e : Ending} {i : Nat} (h : RBackE B d q D name w e w') (hi : BkI D name i) : ∃ vt v', e = .returned (.tuple #[vt, .int .i64 0]) ∧ w'.ownsRow w.heap.size 40 5 vt (ens (D.drop (i + 1))).length (flat peC (ens (D.drop (i + 1))).reverse) ∧ DocO B d q v' (D.take (i + 1)) w w' := by
  rcases h with ⟨_, hno, _⟩ | ⟨j, vt, v', he, hj, ho, hd⟩
  · obtain ⟨x, hx, hb, hxn, _⟩ := hi
    exact absurd hxn (hno x (List.mem_of_getElem? hx) hb)
  · have := hi.uniq hj
    subst this
    exact ⟨vt, v', he, ho, hd⟩

/-- None of the log's rows lies in a block. -/
def FarL (g : Nat) (L : List PE) : Prop := ∀ x ∈ L, Value.ownBlock (.slice x.1.oa x.1.ol x.1.oc) ≠ some g ∧ Value.ownBlock (.slice x.1.na x.1.nl x.1.nc) ≠ some g

/-- A cell of values is stored that is none of the log's. -/
theorem PlI.store {w : World} {l d q : Nat} {v s dv : Value} {L : List PE} {D : List DI} {W : World} (h : PlI w l d q v s L dv D W) {g : Nat} (hf : FarL g L) (hg : ∃ cur, W.heap[g]? = some (Obj.cells cur 42 (0, 0))) (hw : w.heap.size ≤ g) (o : Nat) (z : Value) : PlI w l d q v s L dv D (W.setCell ⟨g, o, none⟩ z) := by
  obtain ⟨cur, hc⟩ := hg
  have hne : ∀ {b e : Nat} {cu : Array Value}, W.heap[b]? = some (Obj.cells cu e (0, 0)) → e ≠ 42 → (W.setCell ⟨g, o, none⟩ z).heap[b]? = W.heap[b]? := fun hb he => heap_setCell_other _ _ _ _ (by rintro rfl; rw [hc] at hb; cases hb; exact he rfl)
  refine ⟨h.lg.keep (hne h.lg.box (by decide)) (fun p hp => ?_) (fun p hp => ?_) (h.lg.lone.keep fun x hx => ⟨fun p hp => heap_setCell_other _ _ _ _ (fun e => (hf x hx).1 (by have e' : p = g := e; rw [← e']; exact hp)), fun p hp => heap_setCell_other _ _ _ _ (fun e => (hf x hx).2 (by have e' : p = g := e; rw [← e']; exact hp))⟩), h.dl.kind fun b e cu hb he => (hne hb (by rcases he with rfl | rfl <;> decide)).trans hb, h.below.setCell hw _, h.all, h.same⟩
  · obtain ⟨cu, hb⟩ := owns_block h.lg.own hp; exact hne hb (by decide)
  · obtain ⟨cu, hb⟩ := owns_block h.lg.sav hp; exact hne hb (by decide)
end Go.Proofs.Ytdiagnmkfnhnjaa
