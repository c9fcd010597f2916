import Derived.Test.YteibhbnlcpejpaaGreatMBN
namespace Go.Proofs.YteibhbnlcpejpaaGreat
open Go.RowKit
open Go.ChangeMaps (setBlock)
theorem no_cell {W: World} {b: Nat} {es: Array MapEntry} {c: Nat} (h: W.heap[b]? = some (.map es c)) (o: Nat): W.cell? ⟨b,o,none⟩ = none := by
 simp [World.cell?, h]
structure Few (k: CondL): Prop where
 d: ∀ x ∈ k.l,deepN 30 x = false
 l: k.l.length <= 20
 t: k.ts.length <= 20
theorem Few.like {k k': CondL} (h: Few k) (hts: k'.ts = k.ts) (hle: k'.l.length = k.l.length) (hlk: ∀ (j: Nat) x y,k.l[j]? = some x -> k'.l[j]? = some y -> LikeN 30 x y): Few k' := by
 refine ⟨fun x hx => ?_,by rw [hle]; exact h.l,by rw [hts]; exact h.t⟩
 obtain ⟨j,hj⟩ := List.mem_iff_getElem?.1 hx
 have hjl: j < k.l.length := by have := (List.getElem?_eq_some_iff.1 hj).1; omega
 have hx' := List.getElem?_eq_getElem hjl
 rw [<- (hlk j _ x hx' hj).deep]
 exact h.d _ (List.mem_of_getElem? hx')
theorem met_like (r: RowL) {k k': CondL} (hts: k'.ts = k.ts) (hle: k'.l.length = k.l.length) (hlk: ∀ (j: Nat) x y,k.l[j]? = some x -> k'.l[j]? = some y -> LikeN 30 x y): meetsC 30 r k'.ts k'.l = meetsC 30 r k.ts k.l := by
 unfold meetsC
 rw [hts,(allN_like [r] hle.symm hlk).1]
structure EnD where
 id: Int
 c: CondL
def enC (e: EnD): List Value := [.int .i64 e.id, .slice e.c.a e.c.ts.length e.c.c, .slice e.c.b e.c.l.length e.c.d]
theorem enC_len (e: EnD): (enC e).length = 3 := rfl
theorem enC_one (e: EnD): ∀ u ∈ enC e,u.oneCell' = true := by
 intro u hu
 simp only [enC,List.mem_cons,List.not_mem_nil,or_false] at hu
 rcases hu with rfl | rfl | rfl <;> rfl
structure Side (L: List EntL) (E: List EnD): Prop where
 len: L.length = E.length
 at_: ∀ (j: Nat) x e,L[j]? = some x -> E[j]? = some e -> e.id = x.1 /\ ∀ r,meetsC 30 r e.c.ts e.c.l = meetsC 30 r x.2.1.ts x.2.1.l
theorem Side.nil: Side [] [] := ⟨rfl,fun j x e h => by simp at h⟩
theorem Side.push {L: List EntL} {E: List EnD} (h: Side L E) {x: EntL} {e: EnD} (hi: e.id = x.1) (hm: ∀ r,meetsC 30 r e.c.ts e.c.l = meetsC 30 r x.2.1.ts x.2.1.l): Side (L ++ [x]) (E ++ [e]) := by
 refine ⟨by simp [h.len],fun j y d hy hd => ?_⟩
 by_cases hj: j < L.length
 · rw [List.getElem?_append_left hj] at hy
   rw [List.getElem?_append_left (by have := h.len; omega)] at hd
   exact h.at_ j y d hy hd
 · rw [List.getElem?_append_right (by omega)] at hy
   rw [List.getElem?_append_right (by have := h.len; omega), <- h.len] at hd
   have: j - L.length = 0 := by
    have := (List.getElem?_eq_some_iff.1 hy).1
    simp at this; omega
   rw [this] at hy hd
   simp at hy hd
   subst hy hd
   exact ⟨hi,hm⟩
theorem Side.cut {L: List EntL} {E: List EnD} (h: Side L E) (j: Nat): Side (L.eraseIdx j) (E.eraseIdx j) := by
 refine ⟨by simp [List.length_eraseIdx,h.len],fun i y d hy hd => ?_⟩
 rw [List.getElem?_eraseIdx] at hy hd
 split at hy
 · rename_i hlt
   rw [if_pos hlt] at hd
   exact h.at_ i y d hy hd
 · rename_i hlt
   rw [if_neg hlt] at hd
   exact h.at_ (i + 1) y d hy hd
theorem Side.get {L: List EntL} {E: List EnD} (h: Side L E) {j: Nat} {e: EnD} (he: E[j]? = some e): ∃ x,L[j]? = some x /\ e.id = x.1 /\ ∀ r,meetsC 30 r e.c.ts e.c.l = meetsC 30 r x.2.1.ts x.2.1.l := by
 have hl := (List.getElem?_eq_some_iff.1 he).1
 have hx := List.getElem?_eq_getElem (l := L) (i := j) (by have := h.len; omega)
 exact ⟨_,hx,h.at_ j _ e hx he⟩
theorem side_count (r: RowL): ∀ {L: List EntL} {E: List EnD},Side L E -> (E.filter fun e => meetsC 30 r e.c.ts e.c.l).length = (L.filter fun x => meetsC 30 r x.2.1.ts x.2.1.l).length
 | [],[],_ => rfl
 | [],_ :: _,h => by have := h.len; simp at this
 | _ :: _,[],h => by have := h.len; simp at this
 | x :: L,e :: E,h => by
  have h0 := (h.at_ 0 x e rfl rfl).2 r
  have ih := side_count r (L := L) (E := E) ⟨by have := h.len; simpa using this,fun j y d hy hd => h.at_ (j + 1) y d hy hd⟩
  simp only [List.filter_cons,h0]
  split <;> simp [ih]
structure AtI (E: List EnD) (id: Int) (i: Nat) (at_: Int): Prop where
 or_: (at_ = -1 /\ ∀ (j: Nat) e,j < i -> E[j]? = some e -> e.id ≠ id) \/ ∃ (j: Nat) (e: EnD),at_ = j /\ j < i /\ E[j]? = some e /\ e.id = id
theorem AtI.zero (E: List EnD) (id: Int): AtI E id 0 (-1) := ⟨Or.inl ⟨rfl,fun j e hj => by omega⟩⟩
theorem AtI.hit {E: List EnD} {id: Int} {i: Nat} {e: EnD} (he: E[i]? = some e) (hid: e.id = id): AtI E id (i + 1) i := ⟨Or.inr ⟨i,e,rfl,Nat.lt_succ_self _,he,hid⟩⟩
theorem AtI.miss {E: List EnD} {id: Int} {i: Nat} {at_: Int} (h: AtI E id i at_) {e: EnD} (he: E[i]? = some e) (hid: e.id ≠ id): AtI E id (i + 1) at_ := by
 rcases h.or_ with ⟨h1,h2⟩ | ⟨j,d,h1,h2,h3,h4⟩
 · refine ⟨Or.inl ⟨h1,fun j d hj hd => ?_⟩⟩
   rcases Nat.lt_or_ge j i with hl | hl
   · exact h2 j d hl hd
   · have: j = i := by omega
     subst this
     rw [he] at hd
     cases hd
     exact hid
 · exact ⟨Or.inr ⟨j,d,h1,by omega,h3,h4⟩⟩
theorem AtI.full {L: List EntL} {E: List EnD} {id: Int} {at_: Int} (h: AtI E id E.length at_) (hs: Side L E): (at_ = -1 /\ hasL L id = false) \/ ∃ (j: Nat) (x: EntL),at_ = j /\ j < E.length /\ L[j]? = some x /\ x.1 = id := by
 rcases h.or_ with ⟨h1,h2⟩ | ⟨j,d,h1,h2,h3,h4⟩
 · refine Or.inl ⟨h1,Bool.eq_false_iff.2 fun hh => ?_⟩
   obtain ⟨j,x,hj,hx⟩ := has_at hh
   have hl := (List.getElem?_eq_some_iff.1 hj).1
   have he := List.getElem?_eq_getElem (l := E) (i := j) (by have := hs.len; omega)
   exact h2 j _ (by have := hs.len; omega) he ((hs.at_ j x _ hj he).1.trans hx)
 · obtain ⟨x,hx,he,_⟩ := hs.get h3
   exact Or.inr ⟨j,x,h1,h2,hx,he.symm.trans h4⟩
structure OpL where
 k: Int
 id: Int
 c: CondL
 r: RowL
def opC (o: OpL): List Value := [.int .i64 o.k, .int .i64 o.id, .slice o.c.a o.c.ts.length o.c.c, .slice o.c.b o.c.l.length o.c.d, .slice o.r.a o.r.l.length o.r.c]
structure OpIn (w: World) (o: OpL): Prop where
 k: (Lit.int .i64 o.k).wf = true
 id: (Lit.int .i64 o.id).wf = true
 c: CdIn w o.c
 r: Rw.SlG vvC 3 w o.r.a o.r.l
 f: o.r.l.length <= maxLen /\ ∀ v ∈ o.r.l,VFit v
theorem OpIn.on {w W: World} {o: OpL} (h: OpIn w o) (hb: Below w.heap.size w W): OpIn W o := ⟨h.k,h.id,h.c.on hb,h.r.below hb,h.f⟩
end Go.Proofs.YteibhbnlcpejpaaGreat
