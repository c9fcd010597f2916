import Derived.WalkKit
import Derived.Below
import Derived.BigQuiet
import Derived.Laws.OwnMore
import Derived.Laws.AppendOwnNone
import Derived.Maps.AppendAt
import Derived.Laws.IdiomCopy
import Derived.Deep.RegionLaw
import Derived.Test.YteibhbnlcpejpaaGreatProg
import Derived.StillTail
namespace Go.Proofs.YteibhbnlcpejpaaGreat.Rw
open Go.RowKit
theorem dh {p: Prop} (h: p): Hid p := h
theorem to_letter {p F: World -> Prop} {W0: World} (h: F W0) (k: ∀ W,F W -> p W): p W0 := k W0 h
theorem below_alloc (w: World) (o: Obj): Below w.heap.size w (w.alloc o) := (Below.refl _ _).alloc (Nat.le_refl _) o
theorem below_on {B: Nat} {a w w1: World} (h: Below B a w) (h1: Below w.heap.size w w1) (hB: B <= w.heap.size := by omega): Below B a w1 := h.trans (h1.mono hB)
theorem heap_new (w: World) (o: Obj): (w.alloc o).heap[w.heap.size]? = some o := heap_alloc_new w o
theorem heap_new' (w: World) (o: Obj) {k: Nat} (h: k = w.heap.size): (w.alloc o).heap[k]? = some o := by rw [h]; exact heap_new w o
theorem add_none (b o j: Nat): (⟨b,o,none⟩: Addr).add j = ⟨b,o + j,none⟩ := by unfold Addr.add; split <;> simp_all
theorem ret_bool {a b: Bool} (h: a = b): Ending.returned (.bool a) = .returned (.bool b) := by rw [h]
theorem ret_int {a b: Int} (h: a = b): Ending.returned (.int .i64 a) = .returned (.int .i64 b) := by rw [h]
section
variable {α: Type} {f: α -> List Value} {k: Nat}
def flat (f: α -> List Value) (l: List α): List Value := l.flatMap f
theorem flat_cons (x: α) (l: List α): flat f (x :: l) = f x ++ flat f l := rfl
theorem flat_append (l m: List α): flat f (l ++ m) = flat f l ++ flat f m := by simp [flat]
theorem flat_length (hf: ∀ x,(f x).length = k) (l: List α): (flat f l).length = l.length * k := by
 induction l with
 | nil => simp [flat]
 | cons x l ih => rw [flat_cons,List.length_append,hf,ih,List.length_cons,Nat.add_mul,Nat.one_mul,Nat.add_comm]
theorem flat_at (hf: ∀ x,(f x).length = k): ∀ (l: List α) (j: Nat) (x: α),l[j]? = some x -> ∀ i u,(f x)[i]? = some u -> (flat f l)[j * k + i]? = some u
 | [],j,x,h => by simp at h
 | y :: l,0,x,h => by
  simp at h
  subst h
  intro i u hu
  rw [flat_cons,Nat.zero_mul,Nat.zero_add,List.getElem?_append_left (List.getElem?_eq_some_iff.1 hu).1,hu]
 | y :: l,j + 1,x,h => by
  intro i u hu
  rw [flat_cons,List.getElem?_append_right (by rw [hf,Nat.add_mul]; omega),hf,show (j + 1) * k + i - k = j * k + i by rw [Nat.add_mul]; omega]
  exact flat_at hf l j x (by simpa using h) i u hu
theorem flat_one (h1: ∀ x,∀ u ∈ f x,u.oneCell' = true) {l: List α}: ∀ u ∈ flat f l,u.oneCell' = true := by
 intro u hu
 obtain ⟨p,_,hp⟩ := List.mem_flatMap.1 hu
 exact h1 p u hp
def SlG (f: α -> List Value) (k: Nat) (W: World) (a: Option Addr) (l: List α): Prop := l = [] \/ ∃ b o,a = some ⟨b,o,none⟩ /\ b < W.heap.size /\ ∀ j x,l[j]? = some x -> ∀ i u,(f x)[i]? = some u -> W.cell? ⟨b,o + j * k + i,none⟩ = some u
theorem SlG.turn {W W': World} {a: Option Addr} {l: List α} (h: SlG f k W a l) (hs: W.heap.size <= W'.heap.size) (hb: ∀ b o,a = some ⟨b,o,none⟩ -> b < W.heap.size -> W'.heap[b]? = W.heap[b]?): SlG f k W' a l := by
 rcases h with h | ⟨b,o,e,hlt,hc⟩
 · exact Or.inl h
 · refine Or.inr ⟨b,o,e,Nat.lt_of_lt_of_le hlt hs,fun j x hj i u hu => ?_⟩
   rw [World.cell?_of_block (w := W) (w' := W') (a := ⟨b,o + j * k + i,none⟩) (hb _ _ e hlt)]
   exact hc j x hj i u hu
theorem SlG.below {W W': World} {a: Option Addr} {l: List α} (h: SlG f k W a l) (hb: Below W.heap.size W W'): SlG f k W' a l := h.turn hb.size fun b _ _ hlt => hb.block b hlt
theorem SlG.at {W: World} {a: Option Addr} {l: List α} (h: SlG f k W a l) {j: Nat} (hj: j < l.length): ∃ b o x,a = some ⟨b,o,none⟩ /\ b < W.heap.size /\ l[j]? = some x /\ ∀ i u,(f x)[i]? = some u -> W.cell? ⟨b,o + j * k + i,none⟩ = some u := by
 rcases h with rfl | ⟨b,o,e,hlt,hc⟩
 · simp at hj
 · exact ⟨b,o,l[j],e,hlt,List.getElem?_eq_getElem hj,hc j _ (List.getElem?_eq_getElem hj)⟩
def Src (W: World) (a: Option Addr) (m c: Nat) (news: List Value): Prop := (a = none /\ m = 0 /\ c = 0 /\ news = []) \/ ∃ ad,a = some ad /\ ∀ j u,news[j]? = some u -> W.cell? (ad.add j) = some u
theorem SlG.src (hf: ∀ x,(f x).length = k) (hk: 0 < k) {W: World} {a: Option Addr} {l: List α} (h: SlG f k W a l) {m c: Nat} (hm: l.length = m) (hc: a = none -> c = 0): Src W a m c (flat f l) := by
 rcases h with rfl | ⟨b,o,rfl,hb,hv⟩
 · cases a with
   | none => exact Or.inl ⟨rfl,by simpa using hm.symm,hc rfl,rfl⟩
   | some ad => exact Or.inr ⟨ad,rfl,fun j u hu => by simp [flat] at hu⟩
 · refine Or.inr ⟨_,rfl,fun j u hu => ?_⟩
   rw [add_none]
   have hj := (List.getElem?_eq_some_iff.1 hu).1
   rw [flat_length hf] at hj
   have hd: j / k < l.length := (Nat.div_lt_iff_lt_mul hk).2 hj
   have hx := List.getElem?_eq_getElem (l := l) hd
   have hr: j % k < (f l[j / k]).length := by rw [hf]; exact Nat.mod_lt _ hk
   have hu' := flat_at hf l _ _ hx (j % k) _ (List.getElem?_eq_getElem hr)
   have e: j / k * k + j % k = j := by rw [Nat.mul_comm]; exact Nat.div_add_mod j k
   rw [e,hu] at hu'
   cases hu'
   have := hv _ _ hx (j % k) _ (List.getElem?_eq_getElem hr)
   rwa [Nat.add_assoc,e] at this
theorem owns_below {W W': World} {base: Nat} {e: TypeId} {size: Nat} {v: Value} {n: Nat} {xs: List Value} (h: W.ownsRow base e size v n xs) (hb: ∀ q,v.ownBlock = some q -> W'.heap[q]? = W.heap[q]?): W'.ownsRow base e size v n xs := by
 refine ⟨h.1, ?_⟩
 rcases h.2 with hn | ⟨g,cap,cur,rfl,hbg,hgg,rest⟩
 · exact .inl hn
 · exact .inr ⟨g,cap,cur,rfl,hbg,by rw [hb g rfl]; exact hgg,rest⟩
theorem owns_on {W W': World} {base: Nat} {e: TypeId} {size: Nat} {v: Value} {n: Nat} {xs: List Value} (h: W.ownsRow base e size v n xs) (hb: Below W.heap.size W W'): W'.ownsRow base e size v n xs := owns_below h fun q hq => hb.block q (h.lt q hq).2
theorem owns_slice {W: World} {base: Nat} {e: TypeId} {size: Nat} {v: Value} {n: Nat} {xs: List Value} (h: W.ownsRow base e size v n xs): ∃ a c,v = .slice a n c := by
 rcases h.2 with ⟨rfl,h0⟩ | ⟨g,cap,cur,rfl,_⟩
 · exact ⟨none,0,by rw [h0]⟩
 · exact ⟨_,_,rfl⟩
theorem owns_addr {W: World} {base e size: Nat} {a: Option Addr} {n c m: Nat} {xs: List Value} (h: W.ownsRow base e size (.slice a n c) m xs): (a = none /\ n = 0 /\ c = 0) \/ ∃ g,a = some ⟨g,0,none⟩ := by
 rcases h.2 with ⟨e,_⟩ | ⟨g,cap,cur,e,_⟩
 · cases e; exact Or.inl ⟨rfl,rfl,rfl⟩
 · cases e; exact Or.inr ⟨g,rfl⟩
theorem owns_block {W: World} {base e size: Nat} {v: Value} {n: Nat} {xs: List Value} (h: W.ownsRow base e size v n xs) {q: Nat} (hq: v.ownBlock = some q): ∃ cur,W.heap[q]? = some (.cells cur e (0,0)) := by
 rcases h.2 with ⟨rfl,_⟩ | ⟨g,cap,cur,rfl,_,hg,_⟩
 · cases hq
 · cases hq; exact ⟨cur,hg⟩
theorem owns_ne {W: World} {b1 b2 e1 e2 s1 s2: Nat} {v1 v2: Value} {n1 n2: Nat} {xs ys: List Value} (h1: W.ownsRow b1 e1 s1 v1 n1 xs) (h2: W.ownsRow b2 e2 s2 v2 n2 ys) (hne: e1 ≠ e2) {q: Nat} (g1: v1.ownBlock = some q) (g2: v2.ownBlock = some q): False := by
 obtain ⟨c1,k1⟩ := owns_block h1 g1
 obtain ⟨c2,k2⟩ := owns_block h2 g2
 rw [k1] at k2
 cases k2
 exact hne rfl
theorem owns_slg (hf: ∀ x,(f x).length = k) (hk: 0 < k) {W: World} {base e: Nat} {a: Option Addr} {n c: Nat} {l: List α} (h: W.ownsRow base e k (.slice a n c) n (flat f l)): l.length = n /\ SlG f k W a l /\ (a = none -> c = 0) := by
 have hl: l.length = n := by have := h.1; rw [flat_length hf] at this; exact Nat.eq_of_mul_eq_mul_right hk this
 refine ⟨hl, ?_, ?_⟩
 · rcases h.2 with ⟨e,h0⟩ | ⟨g,cap,cur,e,hg,hb,_⟩
   · exact Or.inl (List.length_eq_zero_iff.1 (by omega))
   · cases e
     refine Or.inr ⟨g,0,rfl,(Array.getElem?_eq_some_iff.1 hb).1,fun j x hj i u hu => ?_⟩
     have := World.ownsRow.cells h (g := g) rfl _ u (flat_at hf l j x hj i u hu)
     rw [add_none] at this
     rwa [Nat.add_assoc]
 · rintro rfl
   rcases h.2 with ⟨e,h0⟩ | ⟨g,cap,cur,e,_⟩
   · injection e
   · injection e with e; cases e
theorem own_at (hf: ∀ x,(f x).length = k) {W: World} {base e g n m c: Nat} {l: List α} (h: W.ownsRow base e k (.slice (some ⟨g,0,none⟩) n c) m (flat f l)) {j: Nat} {x: α} (hj: l[j]? = some x) {i: Nat} {u: Value} (hu: (f x)[i]? = some u): W.cell? ⟨g,j * k + i,none⟩ = some u := by
 have := World.ownsRow.cells h (g := g) rfl _ u (flat_at hf l j x hj i u hu)
 rwa [add_none,Nat.zero_add] at this
theorem own_fro {W: World} {base e size g n m c: Nat} {xs: List Value} (h: W.ownsRow base e size (.slice (some ⟨g,0,none⟩) n c) m xs) (o: Nat): W.frozen? ⟨g,o,none⟩ = false /\ g < W.heap.size := by
 obtain ⟨cur,hc⟩ := owns_block h (q := g) rfl
 exact ⟨frozen_of_row _ _ _ _ _ hc,(Array.getElem?_eq_some_iff.1 hc).1⟩
theorem own_new {W: World} {base e q size: Nat} (hq: W.heap[q]? = some (.cells #[] e (0,0))) (hw: base <= q): W.ownsRow base e size (.slice (some ⟨q,0,none⟩) 0 0) 0 [] :=
 ⟨by simp,Or.inr ⟨q,0, #[],rfl,hw,hq,Nat.le_refl _,by unfold maxLen; omega,by simp,by simp⟩⟩
theorem own_set {W: World} {B e g n cap: Nat} {xs: List Value} (h: W.ownsRow B e k (.slice (some ⟨g,0,none⟩) n cap) n xs) (o: Nat) (c: Value): (W.setCell ⟨g,o,none⟩ c).ownsRow B e k (.slice (some ⟨g,0,none⟩) n cap) n (xs.set o c) := by
 rcases h with ⟨h1,h2⟩
 rcases h2 with ⟨e1,e2⟩ | ⟨g',cap',cur,e1,g1,g2,g3,g4,g5,g6⟩
 · cases e1
 · cases e1
   refine ⟨by simpa using h1,Or.inr ⟨g,cap,_,rfl,g1,heap_setCell_same _ _ o _ _ c g2,g3,g4,by simpa using g5, ?_⟩⟩
   rw [<- g6]
   simp [List.take_set]
end
theorem src_new (W: World) (vs: List Value) (T: TypeId) (m c: Nat) {q: Nat} (hq: q = W.heap.size): Src (W.alloc (.cells vs.toArray T)) (some ⟨q,0,none⟩) m c vs := by
 subst hq
 refine Or.inr ⟨_,rfl,fun j u hu => ?_⟩
 rw [add_none,Nat.zero_add,cell_of_row _ _ _ _ _ _ (heap_new W (.cells vs.toArray T))]
 simpa using hu
end Go.Proofs.YteibhbnlcpejpaaGreat.Rw
namespace Go.Proofs.YteibhbnlcpejpaaGreat
open Go.RowKit
structure BelowW (W: World) where
 w: World
 below: Below W.heap.size W w
theorem wp_region_below {P: Program} {id: Nat} {Q: Exit -> Act -> World -> Prop} {a: Act} {W: World} {l: List Oper} (hm: P.follows .mixedOrders = true) (hB: Region.lexB .any l.toArray = true)
 (h: Nonempty (BelowW W) -> wpQuiet P l.toArray (fun w' => ∃ q: BelowW W,w' = q.w) (fun a' => ∀ w',(∃ q: BelowW W,w' = q.w) -> Q .normal a' w') l a): (Code.region id l.toArray true).wp P Q a W :=
 wp_region_quiet (C := fun w' => ∃ q: BelowW W,w' = q.w) hm hB ⟨⟨{ W with drawn := W.drawn + 1 },(Below.refl _ _).drew⟩,rfl⟩ (by simpa using h ⟨⟨W,Below.refl _ _⟩⟩)
theorem quiet_of_below {P: Program} {f: FuncId} {args: Array Value} {W: World} {q: BelowW W} {v: Value} (h: Calls P f args q.w fun e w' => e = .returned v /\ Below q.w.heap.size q.w w') :
 Calls P f args q.w fun e w'' => e = .returned v /\ ∃ q': BelowW W,w'' = q'.w :=
 h.mono fun _ w' ⟨he,hb⟩ => ⟨he,⟨w',q.below.trans (hb.mono q.below.size)⟩,rfl⟩
end Go.Proofs.YteibhbnlcpejpaaGreat
