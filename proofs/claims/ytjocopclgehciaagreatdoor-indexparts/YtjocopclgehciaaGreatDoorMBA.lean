/-
  Tree: Each, at any tree, with any function.
-/
import Derived.Test.YtjocopclgehciaaGreatDoorMAZ
import Derived.Test.YtjocopclgehciaaGreatDoorMAP
import Derived.Test.YtjocopclgehciaaGreatDoorMAW
import Derived.Test.YtjocopclgehciaaGreatDoorMAS
import Derived.Sort.OwnSortedInts
import Derived.Test.YtjocopclgehciaaGreatDoorShelf
import Derived.Test.YtjocopclgehciaaGreatDoorMAN
namespace Go.Proofs.YtjocopclgehciaaGreatDoor
open Go.RowKit
open L4 (Ar ArP Abs arV nv)
open L5 (ltP ltB leB)

/-- From a text on. -/
def fromL (fr : ByteArray) (es : List ByteArray) : List ByteArray := es.filter fun e => !ltB fr e

theorem fromL_append (fr : ByteArray) (a b : List ByteArray) : fromL fr (a ++ b) = fromL fr a ++ fromL fr b := List.filter_append ..

theorem fromL_low {fr : ByteArray} {es : List ByteArray} (h : ∀ e ∈ es, ltP e fr) : fromL fr es = [] := by
  unfold fromL
  rw [List.filter_eq_nil_iff]
  intro e he
  rw [show ltB fr e = true from h e he]
  decide

theorem drop_from {l : List ByteArray} (h : l.Pairwise ltP) (fr : ByteArray) : l.drop (l.countP (ltB fr)) = fromL fr l := by
  induction l with
  | nil => rfl
  | cons x l ih =>
    unfold fromL
    rw [List.countP_cons, List.filter_cons]
    rcases lt_or x fr with hx | hx
    · rw [if_pos (ltB_iff.2 hx), show ltB fr x = true from hx]
      simp only [Bool.not_true, Bool.false_eq_true, if_false, List.drop_succ_cons]
      exact ih (List.pairwise_cons.1 h).2
    · have hn : ltB fr x = false := ltB_no.2 hx
      have hz : l.countP (ltB fr) = 0 := by
        rw [List.countP_eq_zero]
        intro y hy
        rw [show ltB fr y = false from ltB_no.2 (le_tr hx (le_of ((List.pairwise_cons.1 h).1 y hy)))]
        decide
      rw [hz, hn]
      simp only [Bool.false_eq_true, if_false, Bool.not_false, if_true, Nat.add_zero, List.drop_zero]
      congr 1
      refine (List.filter_eq_self.2 fun y hy => ?_).symm
      rw [show ltB fr y = false from ltB_no.2 (le_tr hx (le_of ((List.pairwise_cons.1 h).1 y hy)))]
      rfl

/-- The Kids that are left out have only entries below. -/
theorem subs_skip {a : Abs} {h : Nat} {hi lo fr : ByteArray} {rs es : List ByteArray} {cs : List Int} {ps : List Nat} (k : Subs (Sub a h) hi lo rs cs es ps) : (∀ r ∈ rs, r.size ≠ 0) → rs.Pairwise ltP → ∃ es1 es2 ps2, es = es1 ++ es2 ∧ (∀ e ∈ es1, ltP e fr) ∧ SubA a h (cs.drop (rs.countP (leB fr))) es2 ps2 := by
  induction k with
  | @one lo c es ps hP =>
    intro _ _
    refine ⟨[], es, ps, rfl, by simp, ?_⟩
    have := SubA.cons hP .nil
    simpa using this
  | @more lo r c es1 es2 rs cs ps1 ps2 hP t ih =>
    intro hz hw
    rcases lt_or fr r with hr | hr
    · have hc : (r :: rs).countP (leB fr) = 0 := by
        rw [List.countP_eq_zero]
        intro q hq
        rw [show leB fr q = false from leB_no.2 (by
          rcases List.mem_cons.1 hq with rfl | hq
          · exact hr
          · exact lt_tr hr ((List.pairwise_cons.1 hw).1 q hq))]
        decide
      rw [hc]
      exact ⟨[], _, _, rfl, by simp, .cons hP t.all⟩
    · obtain ⟨f1, f2, q2, e1, e2, e3⟩ := ih (fun q hq => hz q (by simp [hq])) (List.pairwise_cons.1 hw).2
      refine ⟨es1 ++ f1, f2, q2, by rw [e1]; simp, fun e he => ?_, ?_⟩
      · rcases List.mem_append.1 he with he | he
        · exact lt_le ((hP.bounds e he).2.resolve_left (hz r (by simp))) hr
        · exact e2 e he
      · rw [List.countP_cons, if_pos (leB_iff.2 hr)]
        exact e3

section
variable {σ γ : Type} {C : L4.St σ} {ct : σ → γ} {ph : γ → ByteArray → γ × Bool} {wg : γ → Nat} {M : Nat} {gf : FuncId} {ff cf : Array Value} {fr tt : ByteArray} {k : Nat} {a : Abs}

theorem feed_append (x y : List ByteArray) : ∀ g : γ, feed tt ph (x ++ y) g = if (feed tt ph x g).2 then ((feed tt ph x g).1, true) else feed tt ph y (feed tt ph x g).1 := by
  induction x with
  | nil => intro g; rfl
  | cons z x ih =>
    intro g
    rw [List.cons_append, feed, feed]
    split
    · rfl
    · split
      · exact ih _
      · rfl

theorem vl_feed {h : Nat} (ih : ∀ (c : Nat) (lo hi : ByteArray) (es : List ByteArray) (ps : List Nat) (g : γ) (b' : γ × Bool), Sub a h c lo hi es ps → Vs a fr (tellE fr tt ph) (fun b => b.2) h c (g, false) b' → b' = feed tt ph (fromL fr es) g) {cs : List Int} {es : List ByteArray} {ps : List Nat} (k : SubA a h cs es ps) : ∀ (g : γ) (b' : γ × Bool), Vl (Vs a fr (tellE fr tt ph) (fun b => b.2) h) (fun b => b.2) cs (g, false) b' → b' = feed tt ph (fromL fr es) g := by
  induction k with
  | nil =>
    intro g b' hv
    cases hv
    rfl
  | @cons c cs lo hi es1 es2 ps1 ps2 hs t ih2 =>
    intro g b' hv
    rw [fromL_append, feed_append]
    generalize hcc : (c : Int) :: cs = l at hv
    cases hv with
    | nil => cases hcc
    | @stop c' _ _ _ hP he =>
      simp only [List.cons.injEq] at hcc
      obtain ⟨h1, _⟩ := hcc
      have : c = c' := by omega
      subst this
      have e := ih c lo hi es1 ps1 g _ hs hP
      rw [← e, he]
      simp only [if_true]
      exact Prod.ext rfl he
    | @more c' _ _ b1 _ hP he tv =>
      simp only [List.cons.injEq] at hcc
      obtain ⟨h1, h2⟩ := hcc
      have : c = c' := by omega
      subst this
      subst h2
      have e := ih c lo hi es1 ps1 g b1 hs hP
      rw [← e, he]
      simp only [Bool.false_eq_true, if_false]
      refine ih2 b1.1 b' ?_
      have eb : b1 = (b1.1, false) := Prod.ext rfl he
      rw [← eb]
      exact tv

theorem vs_feed : ∀ (h c : Nat) (lo hi : ByteArray) (es : List ByteArray) (ps : List Nat) (g : γ) (b' : γ × Bool), Sub a h c lo hi es ps → Vs a fr (tellE fr tt ph) (fun b => b.2) h c (g, false) b' → b' = feed tt ph (fromL fr es) g := by
  intro h
  induction h with
  | zero => intro _ _ _ _ _ _ _ k; exact k.elim
  | succ h ih =>
    intro c lo hi es ps g b' hs hv
    obtain ⟨n, ps', hn, rfl, hb, hc⟩ := hs
    obtain ⟨m, hm, hd⟩ := hv
    have e := hm.uniq hn
    subst e
    obtain ⟨r1, r2⟩ := shaped_recs hn.shaped
    rcases hc with ⟨h0, hl, rfl, _⟩ | ⟨h0, hl, hsu⟩
    · rcases hd with ⟨_, _, rfl⟩ | ⟨h1, _, _⟩
      · unfold tellE
        rw [hl, drop_from r2]
        simp
      · exact absurd h0 h1
    · rcases hd with ⟨h1, _, _⟩ | ⟨_, _, hvl⟩
      · exact absurd h1 h0
      · obtain ⟨es1, es2, ps2, e1, e2, e3⟩ := subs_skip (fr := fr) hsu (fun r hr => by have := (r1 r hr).1; omega) r2
        have et : tellE fr tt ph (g, false) c m = (g, false) := by unfold tellE; rw [hl]; rfl
        rw [et] at hvl
        rw [e1, fromL_append, fromL_low e2, List.nil_append]
        exact vl_feed ih e3 g b' hvl

set_option maxRecDepth 100000 in
theorem teller (F : Fed C ct ph wg M gf ff cf) : Teller (walkSt C k fr tt (.func (.func gf) ff cf)) (fun b => (ct b.1, b.2)) (tellE fr tt ph) (fun b => b.2) (fun b => wg b.1) M 83 84 #[.pointer (some ⟨k, 0, none⟩)] #[] #[.pointer (some ⟨k, 0, none⟩)] #[] where
  gt := fun _ _ => rfl
  ge := fun _ _ => rfl
  tell := fun b W at_ n a c a' c' hP hNR ha hs _ hw => by
    obtain ⟨c0, o0⟩ := b
    exact tell_any F hP hNR ha hs hw
  enough := fun b W hP => by
    obtain ⟨c0, o0⟩ := b
    exact enough_any hP
  wts := fun b at_ n => by
    unfold tellE leafN
    cases n.leaf
    · simp
    · have := feed_wg (tt := tt) F.wgs (n.recs.drop (n.recs.countP (ltB fr))) b.1
      simp only [if_true]
      rw [List.length_drop] at this
      omega

set_option maxRecDepth 100000 in
set_option maxHeartbeats 1000000 in
theorem each_any (F : Fed C ct ph wg M gf ff cf) {s : Ar} {t r h : Nat} {es : List ByteArray} {ps : List Nat} {c : σ} {w : World} (hT : TW s t r h es ps w) (hp : C.P c w) (d1 : ∀ q, C.own c q → ¬ s.own q) (d2 : ∀ q, C.own c q → q ≠ t) (hM : wg (ct c) + es.length + ps.length ≤ M) :
    Calls Tryz.prog 58 #[.pointer (some ⟨t, 0, none⟩), .string fr, .string tt, .func (.func gf) ff cf] w fun e w' => e = .returned (.tuple #[]) ∧ ∃ c', C.P c' w' ∧ ct c' = (feed tt ph (fromL fr es) (ct c)).1 ∧ L4.Moves C c c' w w' := by
  have HT := thid hT
  have HP := thid hp
  have HF := thid F
  have HD := thid (And.intro d1 d2)
  have HOV := thid (over_ok hT.tr (hT.tp.tall hT.ok).2.2)
  have hmf : ∀ (fn : Fn) (first cap : Array Value) (w : World), (Instr.makeFunc fn first cap).run Tryz.prog w = .ok (.func fn first cap) w := fun _ _ _ _ => rfl
  have hfe := fun (fn : Fn) (first cap : Array Value) (w : World) => eql_func_nil w 105 fn first cap Tryz.underlying105
  clear hT hp F d1 d2
  go_enter Tryz.func58, Tryz.ntmps58
  go_wp2_with fail
  refine HOV.out.mono ?_
  rintro e w1 ⟨rfl, B1⟩
  have HB1 := thid B1
  clear HOV B1
  go_wp2_with fail
  have hb2 := tbelow_on HB1.out (tbelow w1 (.cells #[.string fr, .string tt, .func (.func gf) ff cf, .bool false] 132))
  have own1 : ∀ q, C.own c q → q < w.heap.size := fun q hq => C.lt c w q HP.out hq
  have own2 : ∀ q, s.own q → q < w.heap.size := fun q hq => L4.arSt.lt s w q HT.out.ar hq
  have tlt : t < w.heap.size := (Array.getElem?_eq_some_iff.1 HT.out.tr.blk).1
  have z1 := HB1.out.size
  have HTH := thid (through_any (teller (k := w1.heap.size) (fr := fr) (tt := tt) HF.out) (b := (c, false)) (fr := fr) (HT.out.on hb2) ⟨C.below HP.out hb2, heap_alloc_new w1 (.cells #[.string fr, .string tt, .func (.func gf) ff cf, .bool false] 132), fun x => by have := own1 _ x; omega⟩ (fun q hq ho => by
      rcases hq with hq | hq
      · exact HD.out.1 q hq ho
      · have := own2 q ho; omega) (fun q hq => by
      rcases hq with hq | hq
      · exact HD.out.2 q hq
      · omega) hM)
  have HB2 := thid hb2
  clear hb2
  refine HTH.out.mono ?_
  rintro e w4 ⟨rfl, b', hv, hp', hm⟩
  have HFI : Hid (∃ c', C.P c' w4 ∧ ct c' = (feed tt ph (fromL fr es) (ct c)).1 ∧ L4.Moves C c c' w w4) := by
    have e := vs_feed h r e0 e0 es ps (ct c) _ HT.out.tp.sub hv
    refine ⟨b'.1, hp'.1, congrArg Prod.fst e, only_join (Only.of_below HB2.out) hm.only (fun q hq => ?_), fun q hq => ?_⟩
    · rcases hq with hq | hq
      · exact Or.inl hq
      · exact Or.inr (by omega)
    · rcases hm.own q (Or.inl hq) with hq | hq
      · rcases hq with hq | hq
        · exact Or.inl hq
        · exact Or.inr (by omega)
      · exact Or.inr (Nat.le_trans HB2.out.size hq)
  clear hv hp' hm HTH HB2 HB1 HT HP
  go_wp2
  go_end0
  exact ⟨rfl, HFI.out⟩
end
end Go.Proofs.YtjocopclgehciaaGreatDoor
/-
  Tree: All, at any tree.
-/
namespace Go.Proofs.YtjocopclgehciaaGreatDoor
open Go.RowKit
open L4 (Ar ArP Abs arV nv)

/-- A list under way: its variable in block o. -/
def lstSt (o : Nat) : L4.St (Value × List ByteArray) where
  own b q := q = o ∨ b.1.ownBlock = some q
  P b W := W.heap[o]? = some (.cells #[b.1] 92 (0, 0)) ∧ W.ownsRow 0 9 1 b.1 b.2.length (L5.svs b.2)
  keep b w w' h hk _ := ⟨(hk o (Or.inl rfl)).trans h.1, L5.owns_of_block h.2 fun q hq => hk q (Or.inr hq)⟩
  lt b w q h hq := by
    rcases hq with rfl | hq
    · exact (Array.getElem?_eq_some_iff.1 h.1).1
    · exact (h.2.lt q hq).2
  tag b w q cs h hq := by
    intro e
    rcases hq with rfl | hq
    · rw [h.1] at e; simp at e
    · exact row_ne e h.2 (by decide) hq

theorem feed_all {tt : ByteArray} (ht : tt.size = 0) (l : List ByteArray) : ∀ g : List ByteArray, feed tt (fun (g : List ByteArray) x => (g ++ [x], true)) l g = (g ++ l, false) := by
  induction l with
  | nil => intro g; simp [feed]
  | cons x l ih =>
    intro g
    rw [feed, if_neg (fun h => h.1 ht)]
    simp only [if_true]
    rw [ih]
    simp

theorem from_all (es : List ByteArray) : fromL ⟨#[]⟩ es = es := by
  unfold fromL
  refine List.filter_eq_self.2 fun y _ => ?_
  rw [show L5.ltB ⟨#[]⟩ y = false from ltB_no.2 (le_e0 y)]
  rfl

theorem owns_raise {W : World} {B B' : Nat} {e : TypeId} {m n : Nat} {v : Value} {xs : List Value} (h : W.ownsRow B e m v n xs) (hb : ∀ q, v.ownBlock = some q → B' ≤ q) : W.ownsRow B' e m v n xs := by
  refine ⟨h.1, ?_⟩
  rcases h.2 with hn | ⟨g, cap, cur, rfl, _, rest⟩
  · exact .inl hn
  · exact .inr ⟨g, cap, cur, rfl, hb g rfl, rest⟩

end Go.Proofs.YtjocopclgehciaaGreatDoor
/-
  Tree: the document's example.
-/
namespace Go.Proofs.YtjocopclgehciaaGreatDoor
open Go.RowKit
open L4 (Ar ArP Abs arV nv)

def bA : ByteArray := ⟨#[97]⟩
def bB : ByteArray := ⟨#[98]⟩
def leafB : L5.No := ⟨true, [bB], []⟩
def leafAB : L5.No := ⟨true, [bA, bB], []⟩
def leafA : L5.No := ⟨true, [bA], []⟩

theorem lt_ab : Op.bytesLess bA.toList bB.toList = true := by rw [ByteArray.toList_eq, ByteArray.toList_eq]; decide
theorem lt_ba : Op.bytesLess bB.toList bA.toList = false := by rw [ByteArray.toList_eq, ByteArray.toList_eq]; decide
theorem lt_bb : Op.bytesLess bB.toList bB.toList = false := by rw [ByteArray.toList_eq]; decide
theorem eq_ba : (bB.toList == bA.toList) = false := by rw [ByteArray.toList_eq, ByteArray.toList_eq]; decide
theorem eq_bb : (bB.toList == bB.toList) = true := by simp

theorem cnt1 : leaf0.recs.countP (L5.ltB bB) = 0 := rfl
theorem cnt2 : leafB.recs.countP (L5.ltB bA) = 0 := by simp [leafB, L5.ltB, lt_ba]
theorem cnt3 : leafAB.recs.countP (L5.ltB bB) = 1 := by simp [leafAB, L5.ltB, lt_ab, lt_bb]
theorem is1 : L5.isAt leaf0.recs bB 0 = false := rfl
theorem is2 : L5.isAt leafB.recs bA 0 = false := eq_ba
theorem is3 : L5.isAt leafAB.recs bB 1 = true := eq_bb
theorem sh1 : leafB.shaped = true := by decide
theorem sh2 : leafAB.shaped = true := by
  simp [L5.No.shaped, leafAB, L5.recOk, List.range_succ, lt_ab]
  decide
theorem sh3 : leafA.shaped = true := by decide
theorem sm1 : leafB.small := ⟨by decide, by decide, fun s hs => by simp [leafB] at hs; subst hs; decide⟩
theorem sm2 : leafAB.small := ⟨by decide, by decide, fun s hs => by simp [leafAB] at hs; rcases hs with rfl | rfl <;> decide⟩
theorem sm3 : leafA.small := ⟨by decide, by decide, fun s hs => by simp [leafA] at hs; subst hs; decide⟩

/-- A tree of the call's own with one leaf. -/
structure Mine (w : World) (s : Ar) (t l : Nat) (nd : L5.No) (w' : World) : Prop where
  one : One s t 1 l nd w'
  own : ∀ k, s.own k → w.heap.size ≤ k
  tl : w.heap.size ≤ t
  bel : Below w.heap.size w w'
  left : 2 ≤ s.abs.left

theorem Mine.on {w : World} {s : Ar} {t l : Nat} {nd : L5.No} {w1 w2 : World} (k : Mine w s t l nd w1) (hb : Below w1.heap.size w1 w2) : Mine w s t l nd w2 := ⟨k.one.below hb, k.own, k.tl, tbelow_on k.bel hb, k.left⟩

theorem Mine.has {w : World} {s : Ar} {t l l' : Nat} {nd nd' : L5.No} {w1 w2 : World} (k : Mine w s t l nd w1) (h : TrHas s t (s.abs.lay 1 (some (L5.pageL nd'.toNd))) 1 1 l' w1 w2) (h1 : nd'.shaped = true) (h2 : nd'.size ≤ 1024) (h3 : nd'.leaf = true) (h4 : nd'.small) : ∃ s', Mine w s' t l' nd' w2 := by
  obtain ⟨s', hp, hab, hok, hA, hT, hO, hw⟩ := h
  refine ⟨s', ⟨hA, hok, by rw [hp]; exact hT, by rw [hab]; exact at_lay_same k.one.at_ _, h1, h2, h3, h4, by decide⟩, fun q hq => ?_, k.tl, ?_, ?_⟩
  · rcases hw q hq with y | y
    · exact k.own q y
    · exact Nat.le_trans k.bel.size y
  · refine k.bel.trans (hO.below k.bel.size fun q hq x => ?_)
    rcases x with x | x
    · have := k.own q x; omega
    · have := k.tl; omega
  · rw [hab]
    have := k.left
    unfold L4.Abs.left L4.Abs.used at this ⊢
    simpa [L4.Abs.lay] using this

/-- A new tree in a new arena. -/
theorem Mine.new {q : Nat} {w : World} {s : Ar} {w1 w2 : World} (h : L4.Fresh q w s w1) (hq : 3 ≤ q) (hq2 : q ≤ 4096) (hn : TrHas s w1.heap.size (s.abs.alloc.lay s.abs.next (some (L5.pageL leaf0.toNd))) s.abs.next 1 0 w1 w2) : ∃ s', Mine w s' w1.heap.size 0 leaf0 w2 := by
  obtain ⟨_, hab0, hB, hown⟩ := h
  obtain ⟨s', hp, hab, hok, hA, hT, hO, hw⟩ := hn
  have e1 : s.abs.next = 1 := by rw [hab0]; rfl
  rw [e1] at hT hab
  have hok0 : s.abs.Ok := by
    rw [hab0]
    exact ⟨by simp, by simp, by simp, by simp, by simp, hq2⟩
  have hat := (L4.Abs.alloc_used hok0).2.2
  rw [e1] at hat
  refine ⟨s', ⟨hA, hok, by rw [hp]; exact hT, by rw [hab]; exact at_lay_same hat _, by decide, by decide, rfl, leaf0_small, by decide⟩, fun k hk => ?_, hB.size, ?_, ?_⟩
  · rcases hw k hk with y | y
    · exact hown k y
    · exact Nat.le_trans hB.size y
  · refine hB.trans (hO.below hB.size fun k hk x => ?_)
    rcases x with x | x
    · have := hown k x; omega
    · have := hB.size; omega
  · rw [hab, hab0]
    simp [L4.Abs.left, L4.Abs.used, L4.Abs.lay, L4.Abs.alloc, L4.Abs.take, L4.Abs.next]
    omega

theorem ins1 {w : World} {s : Ar} {t : Nat} {w1 : World} (k : Mine w s t 0 leaf0 w1) : Calls Tryz.prog 30 #[.pointer (some ⟨t, 0, none⟩), .string ⟨#[98]⟩] w1 fun e w' => e = .returned (.int .i64 0) ∧ ∃ s', Mine w s' t 1 leafB w' := by
  refine (tinsert_fit (k := bB) k.one (by decide) (by decide) (by rw [cnt1]; exact is1) k.left (by rw [cnt1]; exact sm1) (by rw [cnt1]; exact sh1) (by rw [cnt1]; exact (by decide : leafB.size ≤ 1024)) (by decide)).mono ?_
  rintro e w2 ⟨rfl, h⟩
  rw [cnt1] at h
  exact ⟨rfl, k.has (nd' := leafB) h sh1 (by decide) rfl sm1⟩

theorem ins2 {w : World} {s : Ar} {t : Nat} {w1 : World} (k : Mine w s t 1 leafB w1) : Calls Tryz.prog 30 #[.pointer (some ⟨t, 0, none⟩), .string ⟨#[97]⟩] w1 fun e w' => e = .returned (.int .i64 0) ∧ ∃ s', Mine w s' t 2 leafAB w' := by
  refine (tinsert_fit (k := bA) k.one (by decide) (by decide) (by rw [cnt2]; exact is2) k.left (by rw [cnt2]; exact sm2) (by rw [cnt2]; exact sh2) (by rw [cnt2]; exact (by decide : leafAB.size ≤ 1024)) (by decide)).mono ?_
  rintro e w2 ⟨rfl, h⟩
  rw [cnt2] at h
  exact ⟨rfl, k.has (nd' := leafAB) h sh2 (by decide) rfl sm2⟩

theorem del3 {w : World} {s : Ar} {t : Nat} {w1 : World} (k : Mine w s t 2 leafAB w1) : Calls Tryz.prog 33 #[.pointer (some ⟨t, 0, none⟩), .string ⟨#[98]⟩] w1 fun e w' => e = .returned (.int .i64 0) ∧ ∃ s', Mine w s' t 1 leafA w' := by
  refine (tdelete_one (k := bB) (l := 1) k.one (by rw [cnt3]; exact is3) (by rw [cnt3]; decide) (by decide) (by rw [cnt3]; exact sm3) (by rw [cnt3]; exact sh3) (by rw [cnt3]; exact (by decide : leafA.size ≤ 1024)) (by decide)).mono ?_
  rintro e w2 ⟨rfl, h⟩
  rw [cnt3] at h
  exact ⟨rfl, k.has (nd' := leafA) h sh3 (by decide) rfl sm3⟩

end Go.Proofs.YtjocopclgehciaaGreatDoor
/-
  Tree: two trees in one arena that are only put into.
-/
namespace Go.Proofs.YtjocopclgehciaaGreatDoor
open Go.RowKit
open L4 (Ar ArP Abs arV nv)
open L5 (ltP)

theorem leaf0_shaped : leaf0.shaped = true := by decide
theorem leaf0_size : leaf0.size ≤ 1024 := by decide

/-- A new tree. -/
theorem tnew {s : Ar} {w : World} (hA : ArP s w) (ho : s.abs.Ok) (hl : 0 < s.abs.left) :
    Calls Tryz.prog 27 #[arV s.p] w fun e w' => e = .returned (.tuple #[.pointer (some ⟨w.heap.size, 0, none⟩), .int .i64 0]) ∧ ∃ s' r, TW s' w.heap.size r 1 [] [r] w' ∧ s'.p = s.p ∧ Grew s.abs s'.abs [] [r] ∧ Only (fun k => s.own k ∨ k = w.heap.size) w w' ∧ (∀ k, s'.own k → s.own k ∨ w.heap.size ≤ k) := by
  refine (new_ok hA ho hl).mono ?_
  rintro e w' ⟨rfl, s', hp, hab, hok, hA', hT, hon, hown⟩
  obtain ⟨n1, n2⟩ := next_pos ho
  obtain ⟨⟨z, a1⟩, a2⟩ := at_alloc ho
  obtain ⟨u1, u2⟩ := used_alloc ho
  have hab' : s'.abs = layN s.abs.alloc s.abs.next leaf0 := hab
  have hH : Holds s'.abs s.abs.next leaf0 := by rw [hab']; exact Holds.lay a1 leaf0_shaped leaf0_size leaf0_small
  have hB : Body (Sub s'.abs 0) 0 leaf0 e0 e0 [] [] := ⟨fun r hr => by simp [leaf0] at hr, Or.inl ⟨rfl, rfl, rfl, rfl⟩⟩
  have hS : Sub s'.abs 1 s.abs.next e0 e0 [] [s.abs.next] := ⟨leaf0, [], hH, rfl, hB⟩
  have hTr : TrC w' w.heap.size s'.p s.abs.next 1 ([] : List ByteArray).length := by rw [hp]; exact hT
  have hTP : TreeP s'.abs s.abs.next 1 ([] : List ByteArray).length [] [s.abs.next] := ⟨hS, rfl, by simp⟩
  refine ⟨rfl, s', s.abs.next, ⟨hA', hok, hTr, hTP⟩, hp, ⟨hok, ?_, by simp, fun p hp => absurd hp (by simp), fun p hp => ?_, fun p _ hc' => ?_, ?_⟩, hon, hown⟩
  · rw [hab', (layN_used _ _ _).2.1, u2]
  · simp at hp; subst hp; exact Or.inr n2
  · obtain ⟨c, hc⟩ := hc'
    have hne : p ≠ s.abs.next := fun e => by rw [e, n2] at hc; cases hc
    rw [hab']
    unfold layN
    rw [at_lay_ne hne n1, a2 p hne]
  · rw [hab', (layN_used _ _ _).1, u1]
    rfl

/-- Two trees in one arena, all of the call's own. -/
structure Two (w0 : World) (s : Ar) (t u rt ht ru hu : Nat) (es fs : List ByteArray) (ps qs : List Nat) (w : World) : Prop where
  a : TW s t rt ht es ps w
  b : TW s u ru hu fs qs w
  dj : ∀ p ∈ ps, p ∉ qs
  used : s.abs.used = ps.length + qs.length
  q : s.abs.q = 4000
  fa : Fat s.abs es ps
  fb : Fat s.abs fs qs
  own : ∀ k, s.own k → w0.heap.size ≤ k
  tl : w0.heap.size ≤ t
  ul : w0.heap.size ≤ u
  ne : t ≠ u
  bel : Below w0.heap.size w0 w

theorem Two.swap {w0 : World} {s : Ar} {t u rt ht ru hu : Nat} {es fs : List ByteArray} {ps qs : List Nat} {w : World} (k : Two w0 s t u rt ht ru hu es fs ps qs w) : Two w0 s u t ru hu rt ht fs es qs ps w :=
  ⟨k.b, k.a, fun p hp hq => k.dj p hq hp, by rw [k.used]; omega, k.q, k.fb, k.fa, k.own, k.ul, k.tl, fun e => k.ne e.symm, k.bel⟩

theorem Two.on {w0 : World} {s : Ar} {t u rt ht ru hu : Nat} {es fs : List ByteArray} {ps qs : List Nat} {w w' : World} (k : Two w0 s t u rt ht ru hu es fs ps qs w) (hb : Below w.heap.size w w') : Two w0 s t u rt ht ru hu es fs ps qs w' :=
  ⟨k.a.on hb, k.b.on hb, k.dj, k.used, k.q, k.fa, k.fb, k.own, k.tl, k.ul, k.ne, tbelow_on k.bel hb⟩

/-- What putting makes of the entries, where pages never lack. -/
def insF (es : List ByteArray) (k : ByteArray) : List ByteArray := if (1 ≤ k.size ∧ k.size ≤ 400) ∧ ¬ (es.any fun e => e.toList == k.toList) = true then insK k es else es

theorem any_mem (es : List ByteArray) (k : ByteArray) : (es.any fun e => e.toList == k.toList) = true ↔ k ∈ es := by
  rw [List.any_eq_true]
  constructor
  · rintro ⟨e, h1, h2⟩
    have : e = k := ba_ext (by simpa using h2)
    exact this ▸ h1
  · exact fun h => ⟨k, h, by simp⟩

theorem insF_in {es : List ByteArray} {k : ByteArray} (h : (1 ≤ k.size ∧ k.size ≤ 400) ∧ k ∉ es) : insF es k = insK k es := if_pos ⟨h.1, fun e => h.2 ((any_mem es k).1 e)⟩
theorem insF_out {es : List ByteArray} {k : ByteArray} (h : ¬ ((1 ≤ k.size ∧ k.size ≤ 400) ∧ k ∉ es)) : insF es k = es := if_neg fun e => h ⟨e.1, fun m => e.2 ((any_mem es k).2 m)⟩

theorem insF_mem (es : List ByteArray) (k x : ByteArray) : x ∈ insF es k ↔ x ∈ es ∨ (x = k ∧ 1 ≤ k.size ∧ k.size ≤ 400) := by
  by_cases h : (1 ≤ k.size ∧ k.size ≤ 400) ∧ k ∉ es
  · rw [insF_in h, insK_mem]
    constructor
    · rintro (rfl | h')
      · exact Or.inr ⟨rfl, h.1⟩
      · exact Or.inl h'
    · rintro (h' | ⟨rfl, _⟩)
      · exact Or.inr h'
      · exact Or.inl rfl
  · rw [insF_out h]
    constructor
    · exact Or.inl
    · rintro (h' | ⟨rfl, h1⟩)
      · exact h'
      · by_cases hm : x ∈ es
        · exact hm
        · exact absurd ⟨h1, hm⟩ h

theorem insF_len (es : List ByteArray) (k : ByteArray) : (insF es k).length ≤ es.length + 1 := by
  unfold insF
  split
  · rw [insK_len]; exact Nat.le_refl _
  · omega

theorem Two.insert {w0 : World} {s : Ar} {t u rt ht ru hu : Nat} {es fs : List ByteArray} {ps qs : List Nat} {w : World} {k : ByteArray} (hT : Two w0 s t u rt ht ru hu es fs ps qs w) (h1 : es.length ≤ 200) (h2 : fs.length ≤ 200) :
    Calls Tryz.prog 30 #[.pointer (some ⟨t, 0, none⟩), .string k] w fun e w' => ∃ c, e = .returned (.int .i64 c) ∧ ∃ s' rt' ht' ps', Two w0 s' t u rt' ht' ru hu (insF es k) fs ps' qs w' ∧ Only (fun q => w0.heap.size ≤ q ∧ (s.own q ∨ q = t)) w w' := by
  refine (tinsert_tree (k := k) hT.a (by omega)).mono ?_
  rintro e w' ⟨c, s', r', h', es', ps', rfl, hI, ⟨hW, hp, hG, hon, hown⟩, hF⟩
  have n1 := hT.fa.few hT.a.tp.sub
  have n2 := hT.fb.few hT.b.tp.sub
  have hh := hT.a.tp.sub.tall
  have hleft : ht + 1 ≤ s.abs.left := by unfold L4.Abs.left; rw [hT.used, hT.q]; omega
  have hes : es' = insF es k := by
    rcases hI with ⟨h1, _, rfl⟩ | ⟨h1, ⟨h2, _, rfl⟩ | ⟨h2, ⟨h3, _⟩ | ⟨_, _, rfl⟩⟩⟩
    · rw [insF_out]; rintro ⟨h2, _⟩; omega
    · rw [insF_out]; rintro ⟨_, h3⟩; exact h3 h2
    · omega
    · rw [insF_in ⟨h1, h2⟩]
  subst hes
  have fr : ∀ p ∈ qs, s'.abs.at (p : Int) = s.abs.at (p : Int) := fun p hp => hG.frame p (fun h => hT.dj p h hp) (hT.b.tp.sub.pages p hp)
  have ub : w'.heap[u]? = w.heap[u]? := hon.block u (Array.getElem?_eq_some_iff.1 hT.b.tr.blk).1 fun x => by
    rcases x with x | x
    · exact not_own hT.b.ar hT.b.tr.blk (by decide) (by decide) (by decide) x
    · exact hT.ne x.symm
  have tl := hT.tl
  refine ⟨c, rfl, s', r', h', ps', ⟨hW, ⟨hW.ar, hW.ok, ⟨by rw [hp]; exact ub.trans hT.b.tr.blk⟩, hT.b.tp.frame fr⟩, fun p h1 h2 => ?_, ?_, hG.q.trans hT.q, hF hT.fa, hT.fb.frame fr, fun q hq => ?_, hT.tl, hT.ul, hT.ne, ?_⟩, hon.weaken fun q _ hq => ⟨?_, hq⟩⟩
  · rcases hG.fresh p h1 with h | h
    · exact hT.dj p h h2
    · obtain ⟨c', hc'⟩ := hT.b.tp.sub.pages p h2
      rw [h] at hc'; cases hc'
  · have := hG.used; have := hT.used; omega
  · rcases hown q hq with h | h
    · exact hT.own q h
    · exact Nat.le_trans hT.bel.size h
  · refine hT.bel.trans (hon.below hT.bel.size fun q hq x => ?_)
    rcases x with x | x
    · have := hT.own q x; omega
    · omega
  · rcases hq with hq | hq
    · exact hT.own q hq
    · omega

/-- Two rising lists of the same texts are one. -/
theorem rising_ext : ∀ (x y : List ByteArray), x.Pairwise ltP → y.Pairwise ltP → (∀ z, z ∈ x ↔ z ∈ y) → x = y := by
  intro x
  induction x with
  | nil =>
    intro y _ _ h
    cases y with
    | nil => rfl
    | cons b y => exact absurd ((h b).2 (by simp)) (by simp)
  | cons a x ih =>
    intro y hx hy h
    cases y with
    | nil => exact absurd ((h a).1 (by simp)) (by simp)
    | cons b y =>
      rw [List.pairwise_cons] at hx hy
      have hab : a = b := by
        rcases List.mem_cons.1 ((h a).1 (by simp)) with e | e
        · exact e
        · rcases List.mem_cons.1 ((h b).2 (by simp)) with e' | e'
          · exact e'.symm
          · exact absurd (lt_tr (hy.1 a e) (hx.1 b e')) (lt_irr b)
      subst hab
      rw [ih y hx.2 hy.2 fun z => ?_]
      constructor
      · intro hz
        rcases List.mem_cons.1 ((h z).1 (by simp [hz])) with e | e
        · subst e; exact absurd (hx.1 z hz) (lt_irr z)
        · exact e
      · intro hz
        rcases List.mem_cons.1 ((h z).2 (by simp [hz])) with e | e
        · subst e; exact absurd (hy.1 z hz) (lt_irr z)
        · exact e
end Go.Proofs.YtjocopclgehciaaGreatDoor
/-
  Tree: pages, at any tree.
-/
namespace Go.Proofs.YtjocopclgehciaaGreatDoor
open Go.RowKit
open L4 (Ar ArP Abs arV nv)
open L5 (ltP ltB leB)

/-- Numbers under way: their variable in block o. -/
def pgSt (o : Nat) : L4.St (Value × List Nat) where
  own b q := q = o ∨ b.1.ownBlock = some q
  P b W := W.heap[o]? = some (.cells #[b.1] 53 (0, 0)) ∧ W.ownsRow 0 3 1 b.1 b.2.length (b.2.map nv)
  keep b w w' h hk _ := ⟨(hk o (Or.inl rfl)).trans h.1, L5.owns_of_block h.2 fun q hq => hk q (Or.inr hq)⟩
  lt b w q h hq := by
    rcases hq with rfl | hq
    · exact (Array.getElem?_eq_some_iff.1 h.1).1
    · exact (h.2.lt q hq).2
  tag b w q cs h hq := by
    intro e
    rcases hq with rfl | hq
    · rw [h.1] at e; simp at e
    · exact row_ne e h.2 (by decide) hq

set_option maxRecDepth 100000 in
set_option maxHeartbeats 1000000 in
theorem pages1_any {o : Nat} {v : Value} {xs : List Nat} {at_ : Nat} {lf : Bool} {ra ka : Option Addr} {rn rc kn kc : Nat} {w : World} (k : (pgSt o).P (v, xs) w) (hx : xs.length ≤ 100000) :
    Calls Tryz.prog 87 #[.int .i64 (at_ : Int), .agg #[.bool lf, .slice ra rn rc, .slice ka kn kc], .pointer (some ⟨o, 0, none⟩)] w fun e w' => e = .returned (.tuple #[]) ∧ ∃ v', (pgSt o).P (v', xs ++ [at_]) w' ∧ L4.Moves (pgSt o) (v, xs) (v', xs ++ [at_]) w w' := by
  have HK := thid k
  have ol := (Array.getElem?_eq_some_iff.1 k.1).1
  have c0 : w.cell? ⟨o, 0, none⟩ = some v := by rw [cell_of_row _ _ _ _ _ _ k.1]; rfl
  have hf : ∀ i, w.frozen? ⟨o, i, none⟩ = false := fun i => frozen_of_row _ _ _ _ _ k.1
  have k2 : w.ownsRow 0 3 1 v xs.length (xs.map nv) := k.2
  obtain ⟨va, vc, rfl⟩ := own_slice k2
  clear k k2
  go_enter Tryz.func87, Tryz.ntmps87
  have HB1 := thid (tbelow_on (tbelow w (.cells #[.bool lf, .slice ra rn rc, .slice ka kn kc] 94)) (tbelow (w.alloc (.cells #[.bool lf, .slice ra rn rc, .slice ka kn kc] 94)) (.cells #[.int .i64 (at_ : Int)] 3)))
  go_wp2_with (first
    | (at_builtin
       revert HB1)
    | fail)
  intro HB1
  have HK1 := thid ((pgSt o).below HK.out HB1.out)
  refine L5.append_row (z := .int .i64 0) (by_ := 8) Tryz.underlying53 (by kernel_rfl) (by decide) rfl 0 (Nat.zero_le _) rfl _ _ rfl (.slice va xs.length vc) xs.length (xs.map nv) [nv at_] rfl HK1.out.2 (by omega) 1 (by omega) ⟨w.heap.size + 1, 0, none⟩ 1 rfl rfl (fun i u hi => by
      rw [Addr.add_lit, show w.heap.size + 1 = (w.alloc (.cells #[.bool lf, .slice ra rn rc, .slice ka kn kc] 94)).heap.size by simp, cell_of_row _ _ _ _ _ _ (heap_alloc_new _ _)]
      simpa [nv] using hi) (fun u hu => by simp at hu; subst hu; rfl) ?_
  intro v' w5 hown hg hat
  have hno : (Value.slice va xs.length vc).ownBlock ≠ some o := row_ne HK1.out.1 HK1.out.2 (by decide)
  have b5 : w5.heap[o]? = some (.cells #[.slice va xs.length vc] 53 (0, 0)) := (hg.block o (Nat.lt_of_lt_of_le ol HB1.out.size) (fun e => hno e.symm)).trans HK1.out.1
  have c5 : w5.cell? ⟨o, 0, none⟩ = some (.slice va xs.length vc) := by rw [cell_of_row _ _ _ _ _ _ b5]; rfl
  have f5 : ∀ i, w5.frozen? ⟨o, i, none⟩ = false := fun i => frozen_of_row _ _ _ _ _ b5
  have l5 := (Array.getElem?_eq_some_iff.1 b5).1
  obtain ⟨ad, cp, rfl⟩ := L5.owns_at hown
  have HF : Hid ((pgSt o).P (.slice ad (xs.length + 1) cp, xs ++ [at_]) (w5.setCell ⟨o, 0, none⟩ (.slice ad (xs.length + 1) cp)) ∧ L4.Moves (pgSt o) (.slice va xs.length vc, xs) (.slice ad (xs.length + 1) cp, xs ++ [at_]) w (w5.setCell ⟨o, 0, none⟩ (.slice ad (xs.length + 1) cp))) := by
    refine ⟨⟨heap_setCell_same w5 o 0 _ _ _ b5, ?_⟩, ⟨hg.os.trans HB1.out.os, hg.tape.trans HB1.out.tape, hg.output.trans HB1.out.output, ?_, fun q hq hs => ?_⟩, fun q hq => ?_⟩
    · have h1 := ownsRow_setCell_other hown (a := ⟨o, 0, none⟩) (row_ne b5 hown (by decide)) (.slice ad (xs.length + 1) cp)
      show World.ownsRow _ 0 3 1 (.slice ad (xs.length + 1) cp) (xs ++ [at_]).length ((xs ++ [at_]).map nv)
      rw [List.length_append, show (xs ++ [at_]).map nv = xs.map nv ++ [nv at_] by simp]
      exact h1
    · have z1 := HB1.out.size; have z2 := hg.size; simp [World.setCell]; omega
    · rw [heap_setCell_other _ _ _ _ (fun e => hs (Or.inl e)), hg.block q (Nat.lt_of_lt_of_le hq HB1.out.size) (fun e => hs (Or.inr e.symm)), HB1.out.block q hq]
    · rcases hq with hq | hq
      · exact Or.inl (Or.inl hq)
      · rcases hat q hq with hq | hq
        · exact Or.inl (Or.inr hq)
        · exact Or.inr (Nat.le_trans HB1.out.size hq)
  clear hown hg hat b5 HK HK1 HB1 c0 hf
  go_wp2
  go_end0
  exact ⟨rfl, _, HF.out⟩

set_option maxRecDepth 100000 in
theorem pages2_any (w : World) : Calls Tryz.prog 88 #[] w fun e w' => e = .returned (.bool false) ∧ Below w.heap.size w w' := by
  go_enter Tryz.func88, Tryz.ntmps88
  go_wp2
  go_ret
  exact ⟨rfl, by first | exact Below.refl _ _ | exact (Below.refl _ _).drew⟩

def tellP (g : List Nat) (at_ : Nat) (_ : L5.No) : List Nat := g ++ [at_]

set_option maxRecDepth 100000 in
theorem pages_teller (o : Nat) : Teller (pgSt o) (fun b => b.2) tellP (fun _ => false) List.length 100000 87 88 #[] #[.pointer (some ⟨o, 0, none⟩)] #[] #[] where
  gt := fun _ _ => rfl
  ge := fun _ _ => rfl
  tell := fun b W at_ n a c a' c' hP _ _ _ _ hw => by
    obtain ⟨v, xs⟩ := b
    refine (pages1_any (at_ := at_) (lf := n.leaf) (ra := a) (rn := n.recs.length) (rc := c) (ka := a') (kn := n.kids.length) (kc := c') hP (by have : xs.length + leafN n + 1 ≤ 100000 := hw; omega)).mono ?_
    rintro e w' ⟨rfl, v', h1, h2⟩
    exact ⟨rfl, (v', xs ++ [at_]), h1, rfl, h2⟩
  enough := fun b W _ => pages2_any W
  wts := fun b at_ n => by unfold tellP; simp

theorem count_e0 {l : List ByteArray} (h : ∀ s ∈ l, 1 ≤ s.size) : l.countP (leB e0) = 0 := by
  rw [List.countP_eq_zero]
  intro r hr hle
  have h1 := h r hr
  unfold leB at hle
  have h2 := le_e0 r
  unfold leP at h2
  rw [h2] at hle
  simp only [Bool.false_or, beq_iff_eq] at hle
  rw [ba_ext hle, e0_size] at h1
  omega

theorem vl_pages {a : Abs} {h : Nat} (ih : ∀ (c : Nat) (lo hi : ByteArray) (es : List ByteArray) (ps : List Nat) (g b' : List Nat), Sub a h c lo hi es ps → Vs a e0 tellP (fun _ => false) h c g b' → b' = g ++ ps) {cs : List Int} {es : List ByteArray} {ps : List Nat} (k : SubA a h cs es ps) : ∀ (g b' : List Nat), Vl (Vs a e0 tellP (fun _ => false) h) (fun _ => false) cs g b' → b' = g ++ ps := by
  induction k with
  | nil =>
    intro g b' hv
    cases hv
    simp
  | @cons c cs lo hi es1 es2 ps1 ps2 hs t ih2 =>
    intro g b' hv
    generalize hcc : (c : Int) :: cs = l at hv
    cases hv with
    | nil => cases hcc
    | stop hP he => cases he
    | @more c' _ _ b1 _ hP he tv =>
      simp only [List.cons.injEq] at hcc
      obtain ⟨h1, h2⟩ := hcc
      have : c = c' := by omega
      subst this
      subst h2
      have e := ih c lo hi es1 ps1 g b1 hs hP
      rw [ih2 b1 b' tv, e, List.append_assoc]

theorem vs_pages {a : Abs} : ∀ (h c : Nat) (lo hi : ByteArray) (es : List ByteArray) (ps : List Nat) (g b' : List Nat), Sub a h c lo hi es ps → Vs a e0 tellP (fun _ => false) h c g b' → b' = g ++ ps := by
  intro h
  induction h with
  | zero => intro _ _ _ _ _ _ _ k; exact k.elim
  | succ h ih =>
    intro c lo hi es ps g b' hs hv
    obtain ⟨n, ps', hn, rfl, hb, hc⟩ := hs
    obtain ⟨m, hm, hd⟩ := hv
    have e := hm.uniq hn
    subst e
    obtain ⟨r1, r2⟩ := shaped_recs hn.shaped
    rcases hc with ⟨h0, hl, rfl, rfl⟩ | ⟨h0, hl, hsu⟩
    · rcases hd with ⟨_, _, rfl⟩ | ⟨h1, _, _⟩
      · rfl
      · exact absurd h0 h1
    · rcases hd with ⟨h1, _, _⟩ | ⟨_, _, hvl⟩
      · exact absurd h1 h0
      · rw [count_e0 fun s hs => (r1 s hs).1, List.drop_zero] at hvl
        rw [vl_pages ih hsu.all _ _ hvl]
        unfold tellP
        simp

/-- Pages in order. -/
def sortP (ps : List Nat) : List Int := (ps.map fun n : Nat => (n : Int)).mergeSort fun x y => decide (x ≤ y)

theorem sortP_len (ps : List Nat) : (sortP ps).length = ps.length := by unfold sortP; rw [List.length_mergeSort]; simp

set_option maxRecDepth 100000 in
set_option maxHeartbeats 1000000 in
theorem pages_any {s : Ar} {t r h : Nat} {es : List ByteArray} {ps : List Nat} {w : World} (hT : TW s t r h es ps w) (hM : es.length ≤ 90000) :
    Calls Tryz.prog 62 #[.pointer (some ⟨t, 0, none⟩)] w fun e w' => ∃ a c, e = .returned (.tuple #[.slice a ps.length c, .int .i64 0]) ∧ w'.ownsRow w.heap.size 3 1 (.slice a ps.length c) ps.length (L5.ivs (sortP ps)) ∧ Below w.heap.size w w' := by
  have hb := tbelow w (.cells #[.slice none 0 0] 53)
  have hps := pages_le hT.ok hT.tp.nodup hT.tp.sub.pages
  have hne : ps ≠ [] := by
    have hh := hT.tp.sub
    cases h with
    | zero => exact hh.elim
    | succ h => obtain ⟨n, ps', _, rfl, _⟩ := hh; simp
  have hnew : (pgSt w.heap.size).P (.slice none 0 0, []) (w.alloc (.cells #[.slice none 0 0] 53)) := ⟨heap_alloc_new _ _, ⟨rfl, Or.inl ⟨rfl, rfl⟩⟩⟩
  have own0 : ∀ q, (pgSt w.heap.size).own (.slice none 0 0, []) q → q = w.heap.size := fun q hq => by
    rcases hq with hq | hq
    · exact hq
    · simp [Value.ownBlock] at hq
  have HEA := thid (through_any (fr := e0) (pages_teller w.heap.size) (hT.on hb) hnew (fun q hq ho => by
      have := own0 q hq
      have := L4.arSt.lt s w q hT.ar ho
      omega) (fun q hq => by
      have := own0 q hq
      have := (Array.getElem?_eq_some_iff.1 hT.tr.blk).1
      omega) (by show ([] : List Nat).length + es.length + ps.length ≤ 100000; simp; omega))
  have HB := thid hb
  have HSB := thid hT.tp.sub
  have hmf : ∀ (fn : Fn) (first cap : Array Value) (w : World), (Instr.makeFunc fn first cap).run Tryz.prog w = .ok (.func fn first cap) w := fun _ _ _ _ => rfl
  clear hT hb hnew
  unfold e0 at HEA
  go_enter Tryz.func62, Tryz.ntmps62
  go_wp2_with fail
  refine HEA.out.mono ?_
  rintro e w4 ⟨rfl, ⟨v', xs⟩, hv, hp, hm⟩
  have hxs : xs = ps := by
    have := vs_pages h r _ _ es ps [] xs HSB.out hv
    simpa using this
  subst hxs
  have c0 : w4.cell? ⟨w.heap.size, 0, none⟩ = some v' := by rw [cell_of_row _ _ _ _ _ _ hp.1]; rfl
  have hp2 : w4.ownsRow 0 3 1 v' xs.length (xs.map nv) := hp.2
  rcases hp2.2 with ⟨hn, hz⟩ | ⟨g, cap, cur, rfl, _, hg, hcap, hmax, hcs, htk⟩
  · exact absurd (List.length_eq_zero_iff.1 (by simpa using hz)) hne
  have hzl : (xs.map fun n : Nat => (n : Int)).length = xs.length := by simp
  have HH : Hid (Sort.Holds (Value.int .i64) w4 g 0 (xs.map fun n : Nat => (n : Int)).toArray) := holds_of_blockI hg (by rw [hzl, List.map_map]; rw [Nat.mul_one] at htk; exact htk)
  have HSO := thid (Tryz.slices_Sort_int g 0 cap (xs.map fun n : Nat => (n : Int)) w4 HH.out (Array.getElem?_eq_some_iff.1 hg).1 (by rw [hzl]; omega))
  rw [hzl] at HSO
  have hgw : w.heap.size ≤ g ∧ g ≠ w.heap.size := by
    refine ⟨?_, fun e => ?_⟩
    · rcases hm.own g (Or.inr rfl) with hq | hq
      · have := own0 g hq; omega
      · have := HB.out.size; omega
    · rw [e, hp.1] at hg; simp at hg
  have HB4 : Hid (Below w.heap.size w w4) := HB.out.trans (hm.only.below HB.out.size fun q hq x => by have := own0 q x; omega)
  have HV := thid hp.1
  have HG := thid hg
  clear hp2 hp hm HEA HB hg HH
  go_wp2_with fail
  refine HSO.out.mono ?_
  rintro e w5 ⟨rfl, n5, os5, rfl⟩
  have hgb := grownBy_sortedI (w := w4) (g := g) (n := n5) (os := os5) (sortP xs).toArray
  have HF : Hid ((Sort.grow (Sort.putRow (Value.int .i64) (Sort.ahead w4 n5) g 0 (sortP xs).toArray) os5).ownsRow w.heap.size 3 1 (.slice (some ⟨g, 0, none⟩) xs.length cap) xs.length (L5.ivs (sortP xs)) ∧ Below w.heap.size w (Sort.grow (Sort.putRow (Value.int .i64) (Sort.ahead w4 n5) g 0 (sortP xs).toArray) os5)) := by
    have h1 := ownsRow_sortedI (n := n5) (os := os5) (ss := xs.map fun n : Nat => (n : Int)) (ts := sortP xs) (by rw [sortP_len, hzl]) hgw.1 HG.out (by rw [hzl]; exact hcap) hmax hcs
    rw [hzl] at h1
    exact ⟨h1, HB4.out.grown hgb HB4.out.size (fun k hk => by cases hk; exact hgw.1)⟩
  have c1 : (Sort.grow (Sort.putRow (Value.int .i64) (Sort.ahead w4 n5) g 0 (sortP xs).toArray) os5).cell? ⟨w.heap.size, 0, none⟩ = some (.slice (some ⟨g, 0, none⟩) xs.length cap) := by
    rw [cell_of_row _ _ _ _ _ _ ((hgb.block w.heap.size (Array.getElem?_eq_some_iff.1 HV.out).1 (fun e => hgw.2 (by cases e; rfl))).trans HV.out)]; rfl
  have l1 := Nat.lt_of_lt_of_le (Array.getElem?_eq_some_iff.1 HV.out).1 hgb.size
  unfold sortP at c1 l1 hgb
  clear HV HG HSO HB4 c0
  go_wp2
  go_ret2
  exact ⟨_, _, rfl, HF.out⟩
end Go.Proofs.YtjocopclgehciaaGreatDoor
/-
  Tree: write, with pages that are given back.
-/
namespace Go.Proofs.YtjocopclgehciaaGreatDoor
open Go.RowKit
open L4 (Ar ArP Abs arV nv)

/-- Pages in use stay so when others are laid. -/
theorem laid_keeps (Ld : List Lay) : ∀ {a : Abs} {n : Nat}, (∃ c, a.at (n : Int) = some c) → ∃ c, (Ld.foldl (fun a y => a.lay y.at_ (some (L5.pageL y.n.toNd))) a).at (n : Int) = some c := by
  induction Ld with
  | nil => intro a n h; exact h
  | cons y l ih =>
    rintro a n ⟨c, hc⟩
    exact ih (at_lay hc _)

/-- The pages made so far. -/
structure Wpg (B : Nat) (s : Ar) (t x r h l xr xh xl : Nat) (tk ld gn : Value) (T : List Nat) (Ld : List Lay) (G : List Nat) (w : World) (pv : Value) (bl : List Nat) (wr : World) : Prop where
  es : Es B s t x r h l xr xh xl tk ld gn T Ld G wr
  row : wr.ownsRow B 119 1 pv bl.length (bl.map pgV)
  blk : ∀ (i b : Nat) (y : Lay), bl[i]? = some b → Ld[i]? = some y → L5.Blk wr b (L5.pageL y.n.toNd)
  stp : Stp B s s t x w wr

theorem Wpg.on {B : Nat} {s : Ar} {t x r h l xr xh xl : Nat} {tk ld gn : Value} {T : List Nat} {Ld : List Lay} {G : List Nat} {w : World} {pv : Value} {bl : List Nat} {wr wr' : World} (k : Wpg B s t x r h l xr xh xl tk ld gn T Ld G w pv bl wr) (hb : Below wr.heap.size wr wr') : Wpg B s t x r h l xr xh xl tk ld gn T Ld G w pv bl wr' :=
  ⟨k.es.below hb, L5.owns_of_block k.row fun q hq => hb.block q (k.row.lt q hq).2, fun i b y h1 h2 => (hb.block b (L5.Blk.lt (k.blk i b y h1 h2))).trans (k.blk i b y h1 h2), k.stp.trans (Stp.below hb)⟩

/-- One page more: the row of pages grows. -/
theorem Wpg.more {B : Nat} {s : Ar} {t x r h l xr xh xl : Nat} {tk ld gn : Value} {T : List Nat} {Ld : List Lay} {G : List Nat} {w : World} {pv pv' : Value} {bl : List Nat} {b : Nat} {wr wr' : World} {m : Nat} (k : Wpg B s t x r h l xr xh xl tk ld gn T Ld G w pv bl wr) (hg : wr.grownBy wr' pv.ownBlock) (hm : m = bl.length + 1) (ho : wr'.ownsRow B 119 1 pv' m (bl.map pgV ++ [pgV b])) (hb : ∀ y : Lay, Ld[bl.length]? = some y → L5.Blk wr b (L5.pageL y.n.toNd)) :
    Wpg B s t x r h l xr xh xl tk ld gn T Ld G w pv' (bl ++ [b]) wr' := by
  subst hm
  have keepB : ∀ (q : Nat) (cs : Array Value) (e : TypeId), wr.heap[q]? = some (.cells cs e (0, 0)) → e ≠ 119 → wr'.heap[q]? = wr.heap[q]? := fun q cs e hq he => hg.block q (Array.getElem?_eq_some_iff.1 hq).1 (fun x => row_ne hq k.row he x.symm)
  have row : ∀ {e : TypeId} {m : Nat} {v : Value} {n : Nat} {xs : List Value}, wr.ownsRow B e m v n xs → e ≠ 119 → wr'.ownsRow B e m v n xs := fun hr he => L5.owns_of_block hr fun q hq => by
    obtain ⟨cur, hc⟩ := L4.owns_tag hr hq
    exact keepB q _ _ hc he
  have e := k.es
  refine ⟨⟨L4.arSt.keep s wr wr' e.ar (fun q hq => by
      obtain ⟨cur, t', h1, h2⟩ := e.ar.tag hq
      exact keepB q _ _ h1 (by rcases h2 with h2 | h2 | h2 <;> rw [h2] <;> decide)) (fun q cs hq => keepB q cs _ hq (by decide)), ⟨(keepB t _ _ e.tr.blk (by decide)).trans e.tr.blk⟩, (keepB x _ _ e.ed (by decide)).trans e.ed, Nat.le_trans e.bs hg.size, row e.rt (by decide), row e.rl (by decide), row e.rg (by decide), fun y hy => row (e.rr y hy) (by decide), fun y hy => row (e.rk y hy) (by decide), e.a1, e.a2, e.a3⟩, by rw [List.map_append, List.length_append]; exact ho, fun i c y h1 h2 => ?_, k.stp.trans ⟨⟨hg.os, hg.tape, hg.output, hg.size, fun q hq hn => hg.block q hq (fun x => hn (Or.inr (Or.inr (Or.inr (k.row.lt q x.symm).1))))⟩, fun _ x => Or.inl x⟩⟩
  have hK : L5.Blk wr c (L5.pageL y.n.toNd) := by
    by_cases hi : i < bl.length
    · rw [List.getElem?_append_left hi] at h1
      exact k.blk i c y h1 h2
    · have hl := (List.getElem?_eq_some_iff.1 h1).1
      have hi2 : i = bl.length := by simp at hl; omega
      subst hi2
      simp at h1
      subst h1
      exact hb y h2
  exact (keepB c _ _ hK (by decide)).trans hK

/-- The pages are stored, one behind the other. -/
structure Wqg (B : Nat) (s s2 : Ar) (t x r h l xr xh xl : Nat) (tk ld gn : Value) (T : List Nat) (Ld : List Lay) (G : List Nat) (w : World) (pv : Value) (bl : List Nat) (wr : World) : Prop where
  es : Es B s2 t x r h l xr xh xl tk ld gn T Ld G wr
  row : wr.ownsRow B 119 1 pv bl.length (bl.map pgV)
  blk : ∀ (i b : Nat) (y : Lay), bl[i]? = some b → Ld[i]? = some y → L5.Blk wr b (L5.pageL y.n.toNd)
  stp : Stp B s s2 t x w wr

theorem Wqg.on {B : Nat} {s s2 : Ar} {t x r h l xr xh xl : Nat} {tk ld gn : Value} {T : List Nat} {Ld : List Lay} {G : List Nat} {w : World} {pv : Value} {bl : List Nat} {wr wr' : World} (k : Wqg B s s2 t x r h l xr xh xl tk ld gn T Ld G w pv bl wr) (hb : Below wr.heap.size wr wr') : Wqg B s s2 t x r h l xr xh xl tk ld gn T Ld G w pv bl wr' :=
  ⟨k.es.below hb, L5.owns_of_block k.row fun q hq => hb.block q (k.row.lt q hq).2, fun i b y h1 h2 => (hb.block b (L5.Blk.lt (k.blk i b y h1 h2))).trans (k.blk i b y h1 h2), k.stp.trans (Stp.below hb)⟩

theorem Wqg.moves {B : Nat} {s s2 s3 : Ar} {t x r h l xr xh xl : Nat} {tk ld gn : Value} {T : List Nat} {Ld : List Lay} {G : List Nat} {w : World} {pv : Value} {bl : List Nat} {wr wr' : World} (k : Wqg B s s2 t x r h l xr xh xl tk ld gn T Ld G w pv bl wr) (hA : ArP s3 wr') (hp : s3.p = s2.p) (hm : L4.Moves L4.arSt s2 s3 wr wr') : Wqg B s s3 t x r h l xr xh xl tk ld gn T Ld G w pv bl wr' :=
  ⟨k.es.moves hA hp hm, L5.owns_of_block k.row fun q hq => hm.only.block q (k.row.lt q hq).2 (row_not_own k.es.ar k.row (by decide) (by decide) (by decide) hq), fun i b y h1 h2 => (hm.only.block b (L5.Blk.lt (k.blk i b y h1 h2)) (not_own k.es.ar (k.blk i b y h1 h2) (by decide) (by decide) (by decide))).trans (k.blk i b y h1 h2), k.stp.trans (Stp.moves k.es.bs hm)⟩

/-- The j-th page. -/
theorem Wqg.page {B : Nat} {s s2 : Ar} {t x r h l xr xh xl : Nat} {tk ld gn : Value} {T : List Nat} {Ld : List Lay} {G : List Nat} {w : World} {pa : Option Addr} {pc m : Nat} {bl : List Nat} {wr : World} (k : Wqg B s s2 t x r h l xr xh xl tk ld gn T Ld G w (.slice pa m pc) bl wr) {j : Nat} (hj : j < bl.length) : ∃ q, (∃ qb, pa = some ⟨qb, 0, none⟩ ∧ qb < wr.heap.size ∧ wr.cell? ⟨qb, j, none⟩ = some (pgV q)) ∧ bl[j]? = some q := by
  refine ⟨bl[j], ?_, List.getElem?_eq_getElem hj⟩
  rcases k.row.2 with ⟨e, h0⟩ | ⟨g, cap, cur, e, hbg, hg, hnc, hcm, hcs, htake⟩
  · omega
  · cases e
    refine ⟨g, rfl, (Array.getElem?_eq_some_iff.1 hg).1, ?_⟩
    rw [cell_of_row _ _ _ _ _ _ hg]
    have e : (bl.map pgV)[j]? = some (pgV bl[j]) := by simp [hj]
    rw [← htake, List.getElem?_take, if_pos (by omega)] at e
    simpa using e

set_option maxRecDepth 100000 in
set_option maxHeartbeats 1000000 in
theorem write_any {B : Nat} {s : Ar} {t x r h l xr xh xl : Nat} {tk ld gn : Value} {T : List Nat} {Ld : List Lay} {G : List Nat} {w : World} (k : Es B s t x r h l xr xh xl tk ld gn T Ld G w) (ho : s.abs.Ok) (hL : Ld.length ≤ 10000) (hn : ∀ y ∈ Ld, y.n.small ∧ y.n.shaped = true ∧ y.n.size ≤ 1024) (hat : ∀ y ∈ Ld, ∃ c, s.abs.at (y.at_ : Int) = some c) (hgn : G.Nodup) (hgu : ∀ n ∈ G, ∃ c, s.abs.at (n : Int) = some c) (hgl : G.length ≤ 10000) :
    Calls Tryz.prog 67 #[.pointer (some ⟨x, 0, none⟩)] w fun e w' => e = .returned (.tuple #[]) ∧ ∃ s', s'.p = s.p ∧ s'.abs = G.foldl (fun a n => a.free n) (Ld.foldl (fun a y => a.lay y.at_ (some (L5.pageL y.n.toNd))) s.abs) ∧ s'.abs.Ok ∧ ArP s' w' ∧ TrC w' t s.p xr xh xl ∧ Stp B s s' t x w w' := by
  have HK := thid k
  obtain ⟨ad, cp, rfl⟩ := own_slice k.rl
  obtain ⟨d0, d1, d2, d3, d4, d5, d6, dl, df⟩ := k.ed.cells
  clear k
  go_enter Tryz.func67, Tryz.ntmps67
  go_wp2_with fail
  go_loopw [2, 16] (fun pv i wr => ∃ j : Nat, j ≤ Ld.length ∧ i = .int .i64 (j : Int) ∧ ∃ bl : List Nat, Hid (bl.length = j) ∧ Hid (Wpg B s t x r h l xr xh xl tk (.slice ad Ld.length cp) gn T Ld G w pv bl wr)) (fun _ i _ => Ld.length - (intOf i).toNat)
  case atStart => exact ⟨0, Nat.zero_le _, rfl, [], rfl, ⟨HK.out, ⟨rfl, Or.inl ⟨rfl, rfl⟩⟩, fun i b y h1 => by simp at h1, Stp.refl _ _ _ _ _⟩⟩
  case round =>
    clear HK d0 d1 d2 d3 d4 d5 d6 dl df
    obtain ⟨j, hj, rfl, bl, HBL, HW⟩ := hrel
    by_cases hlt : j < Ld.length
    · have hlt' : (j : Int) < (Ld.length : Int) := by omega
      obtain ⟨g, cp', e, hgl, g0, g1, g2, g3, g4⟩ := row5 HW.out.es.rl hlt
      cases e
      have hmem := List.getElem_mem hlt
      obtain ⟨hsm, hshp, hsz⟩ := hn _ hmem
      have hrr := HW.out.es.rr _ hmem
      have hrk := HW.out.es.rk _ hmem
      have HY : Hid (Ld[j]? = some Ld[j]) := List.getElem?_eq_getElem hlt
      generalize Ld[j] = y at *
      obtain ⟨ra, rc, er⟩ := own_slice hrr
      obtain ⟨ka, kc, ek⟩ := own_slice hrk
      rw [er] at g2 hrr
      rw [ek] at g3 hrk
      have HRR := thid hrr
      have HRK := thid hrk
      unfold nv at g0 g4
      go_wp2_with fail
      have HB1 := thid (tbelow wr (.cells #[.int .i64 (y.at_ : Int), .bool y.n.leaf, .slice ra y.n.recs.length rc, .slice ka y.n.kids.length kc, .int .i64 (y.kid : Int)] 118))
      have HW1 := thid (HW.out.on HB1.out)
      have HNR := thid (L5.NR.mk (L5.owns_rd_slice (L5.owns_below HRR.out HB1.out)) (L5.owns_rd_slice (L5.owns_below HRK.out HB1.out)))
      clear HW HB1 HRR HRK g0 g1 g2 g3 g4 hrr hrk er ek
      generalize wr.alloc (.cells #[.int .i64 (y.at_ : Int), .bool y.n.leaf, .slice ra y.n.recs.length rc, .slice ka y.n.kids.length kc, .int .i64 (y.kid : Int)] 118) = W1 at HW1 HNR ⊢
      refine (L5.encode_ok (n := y.n) HNR.out hsm hshp hsz).mono ?_
      rintro e w2 ⟨b2, rfl, hb2, K2, B2⟩
      have HW2 := thid (HW1.out.on B2)
      have HK2 := thid K2
      clear HW1 HNR B2 K2
      go_wp2_with (first
        | (go_at_call 70; refine (L1.check_ok _).mono ?_; rintro e w3 ⟨rfl, rfl⟩)
        | (at_builtin
           revert HW2)
        | fail)
      intro HW2
      have HB3 := thid (tbelow w3 (.cells #[pgV b2] 119))
      have HW3 := thid (HW2.out.on HB3.out)
      have hbl := HBL.out
      refine append_wide (z := .slice none 0 0) (by_ := 24) Tryz.underlying141 (by kernel_rfl) (by decide) rfl B HW3.out.es.bs rfl _ _ rfl u2 bl.length (bl.map pgV) [pgV b2] rfl HW3.out.row (by omega) 1 (by omega) ⟨w3.heap.size, 0, none⟩ 1 rfl rfl (fun i u hi => by
        match i with
        | 0 => cases hi; simp [go_sem, pgV]
        | i + 1 => cases hi) (fun u hu => by simp at hu; subst hu; rfl) ?_
      intro v4 w4 hown hg _
      have HW4 := thid (HW3.out.more hg rfl hown (fun y' hy' => by
        rw [hbl, HY.out] at hy'
        cases hy'
        exact (HB3.out.block _ (L5.Blk.lt HK2.out)).trans HK2.out))
      clear HW2 HB3 HW3 HK2 hown hg
      go_wp2
      exact ⟨⟨j + 1, by omega, by go_num, bl ++ [b2], by show _ = _; simp [hbl], HW4⟩, by simp [intOf]; omega⟩
    · have hlt' : (Ld.length : Int) ≤ (j : Int) := by omega
      have hjl : j = Ld.length := by omega
      subst hjl
      obtain ⟨d0, d1, d2, d3, d4, d5, d6, dl, df⟩ := HW.out.es.ed.cells
      obtain ⟨pa, pc, rfl⟩ := own_slice HW.out.row
      go_wp2_with fail
      go_loopw [38] (fun i w2 => ∃ j : Nat, j ≤ Ld.length ∧ i = .int .i64 (j : Int) ∧ ∃ s2 : Ar, Hid (s2.p = s.p) ∧ Hid (s2.abs = (Ld.take j).foldl (fun a y => a.lay y.at_ (some (L5.pageL y.n.toNd))) s.abs) ∧ Hid s2.abs.Ok ∧ Hid (∀ y ∈ Ld, ∃ c, s2.abs.at (y.at_ : Int) = some c) ∧ Hid (Wqg B s s2 t x r h l xr xh xl tk (.slice ad Ld.length cp) gn T Ld G w (.slice pa bl.length pc) bl w2)) (fun i _ => Ld.length - (intOf i).toNat)
      case atStart => exact ⟨0, Nat.zero_le _, rfl, s, rfl, rfl, ho, hat, ⟨HW.out.es, HW.out.row, HW.out.blk, HW.out.stp⟩⟩
      case round =>
        clear d0 d1 d2 d3 d4 d5 d6 dl df HW
        obtain ⟨j, hj, rfl, s2, HP2, HA2, HO2, HT2, HQ⟩ := hrel
        by_cases hlt : j < Ld.length
        · have hlt' : (j : Int) < (Ld.length : Int) := by omega
          obtain ⟨g, cp', e, hgl, g0, g1, g2, g3, g4⟩ := row5 HQ.out.es.rl hlt
          cases e
          have hmem := List.getElem_mem hlt
          obtain ⟨c1, hc1⟩ := HT2.out _ hmem
          have hrr := HQ.out.es.rr _ hmem
          have hrk := HQ.out.es.rk _ hmem
          have HY : Hid (Ld[j]? = some Ld[j]) := List.getElem?_eq_getElem hlt
          generalize Ld[j] = y at *
          obtain ⟨ra, rc, er⟩ := own_slice hrr
          obtain ⟨ka, kc, ek⟩ := own_slice hrk
          rw [er] at g2
          rw [ek] at g3
          unfold nv at g0 g4
          obtain ⟨q, ⟨qb, rfl, hql, hqc⟩, hqb⟩ := HQ.out.page (j := j) (by rw [HBL.out]; exact hlt)
          have HB1 := thid (tbelow wr (.cells #[.int .i64 (y.at_ : Int), .bool y.n.leaf, .slice ra y.n.recs.length rc, .slice ka y.n.kids.length kc, .int .i64 (y.kid : Int)] 118))
          have hjb : (j : Int) < (bl.length : Int) := by rw [HBL.out]; exact hlt'
          go_wp2_with fail
          have HQ1 := thid (HQ.out.on HB1.out)
          have hqc1 := (HB1.out.cell (p := ⟨qb, j, none⟩) hql).trans hqc
          have p0 : (wr.alloc (.cells #[.int .i64 (y.at_ : Int), .bool y.n.leaf, .slice ra y.n.recs.length rc, .slice ka y.n.kids.length kc, .int .i64 (y.kid : Int)] 118)).cell? ⟨wr.heap.size, 0, none⟩ = some (.int .i64 (y.at_ : Int)) := by simp [go_sem]
          have pl : wr.heap.size < (wr.alloc (.cells #[.int .i64 (y.at_ : Int), .bool y.n.leaf, .slice ra y.n.recs.length rc, .slice ka y.n.kids.length kc, .int .i64 (y.kid : Int)] 118)).heap.size := by simp
          have hql1 : qb < (wr.alloc (.cells #[.int .i64 (y.at_ : Int), .bool y.n.leaf, .slice ra y.n.recs.length rc, .slice ka y.n.kids.length kc, .int .i64 (y.kid : Int)] 118)).heap.size := by simp; omega
          clear HQ HB1 g0 g1 g2 g3 g4 hrr hrk er ek hqc hgl hql
          generalize wr.alloc (.cells #[.int .i64 (y.at_ : Int), .bool y.n.leaf, .slice ra y.n.recs.length rc, .slice ka y.n.kids.length kc, .int .i64 (y.kid : Int)] 118) = W1 at *
          generalize wr.heap.size = pq at *
          obtain ⟨e0, e1, e2, e3, e4, e5, e6, el, ef⟩ := HQ1.out.es.ed.cells
          obtain ⟨t0, t1, t2, t3, tl, tf⟩ := HQ1.out.es.tr.cells
          unfold pgV at hqc1
          refine wp_region_quiet_tail (fun w' => ∃ n, w' = World.drewN W1 n) 13 (by kernel_rfl) (by kernel_rfl) ⟨1, rfl⟩ ?_
          simp only [List.take_succ_cons, List.take_zero, List.drop_succ_cons, List.drop_zero]
          repeat (go_big_quiet_step (fail))
          refine wpQuiet_nil ?_
          rintro _ ⟨nq, rfl⟩
          have HQ2 := thid (HQ1.out.on (below_drewN (Below.refl _ _) nq))
          clear HQ1 e0 e1 e2 e3 e4 e5 e6 el ef t0 t1 t2 t3 tl tf p0 pl hqc1 hql1
          generalize W1.drewN nq = W2 at HQ2 ⊢
          go_wp2_with fail
          have hKq := HQ2.out.blk j q y hqb HY.out
          have hpl : (L5.pageL y.n.toNd).length = 1024 := L5.pageL_length (by rw [L5.toNd_size]; exact (hn y hmem).2.2)
          have hBS : L4.BS W2 q (.slice (some ⟨q, 0, none⟩) 1024 1024) (L5.pageL y.n.toNd) := ⟨by rw [hpl], _, hKq⟩
          refine (L4.store_ok (s := s2) HQ2.out.es.ar HO2.out hc1 hBS hpl).mono ?_
          rintro e w4 ⟨rfl, s4, hA4, hp4, hab4, hm4⟩
          have HQ4 := thid (HQ2.out.moves hA4 hp4 hm4)
          clear HQ2 hBS hKq hA4 hm4
          go_wp2
          have hlay : s4.abs.Ok := by rw [hab4]; exact HO2.out.lay hc1 hpl
          refine ⟨⟨j + 1, by omega, by go_num, s4, hp4.trans HP2.out, ?_, hlay, ?_, HQ4⟩, by simp [intOf]; omega⟩
          · show _ = _
            obtain ⟨hj', hy'⟩ := List.getElem?_eq_some_iff.1 HY.out
            rw [hab4, HA2.out, List.take_succ_eq_append_getElem hj', List.foldl_append, hy']
            rfl
          · intro y' hy'
            obtain ⟨c', hc'⟩ := HT2.out y' hy'
            rw [hab4]
            exact at_lay hc' _
        · have hlt' : (Ld.length : Int) ≤ (j : Int) := by omega
          have hjl : j = Ld.length := by omega
          subst hjl
          obtain ⟨d0, d1, d2, d3, d4, d5, d6, dl, df⟩ := HQ.out.es.ed.cells
          obtain ⟨ga, gc, rfl⟩ := own_slice HQ.out.es.rg
          go_wp2_with fail
          rw [List.take_length] at HA2
          have HG0 := thid (fun n (hn : n ∈ G) => laid_keeps Ld (hgu n hn))
          go_loopw [63] (fun i w2 => ∃ j : Nat, j ≤ G.length ∧ i = .int .i64 (j : Int) ∧ ∃ s3 : Ar, Hid (s3.p = s.p) ∧ Hid (s3.abs = (G.take j).foldl (fun a n => a.free n) (Ld.foldl (fun a y => a.lay y.at_ (some (L5.pageL y.n.toNd))) s.abs)) ∧ Hid s3.abs.Ok ∧ Hid (∀ n ∈ G.drop j, ∃ c, s3.abs.at (n : Int) = some c) ∧ Hid (Es B s3 t x r h l xr xh xl tk (.slice ad Ld.length cp) (.slice ga G.length gc) T Ld G w2 ∧ Stp B s s3 t x w w2)) (fun i _ => G.length - (intOf i).toNat)
          case atStart => exact ⟨0, Nat.zero_le _, rfl, s2, HP2, HA2, HO2, fun n hn => by rw [HA2.out]; exact HG0.out n (by simpa using hn), HQ.out.es, HQ.out.stp⟩
          case round =>
            clear HQ d0 d1 d2 d3 d4 d5 d6 dl df HA2 HP2 HO2 HT2
            obtain ⟨j, hj, rfl, s3, HP3, HA3, HO3, HU3, HE3⟩ := hrel
            by_cases hlt : j < G.length
            · have hlt' : (j : Int) < (G.length : Int) := by omega
              obtain ⟨d0, d1, d2, d3, d4, d5, d6, dl, df⟩ := HE3.out.1.ed.cells
              obtain ⟨t0, t1, t2, t3, tl, tf⟩ := HE3.out.1.tr.cells
              obtain ⟨gb, go, rfl, gbl, gbc⟩ := (L5.owns_rd_slice HE3.out.1.rg).2.2 j (nv G[j]) (by simp [hlt])
              have hdr : G.drop j = G[j] :: G.drop (j + 1) := List.drop_eq_getElem_cons hlt
              have htk : G.take (j + 1) = G.take j ++ [G[j]] := (List.take_append_getElem hlt).symm
              have hnotin : G[j] ∉ G.drop (j + 1) := by
                have hd2 : (G.drop j).Nodup := hgn.sublist (List.drop_sublist _ _)
                rw [hdr] at hd2
                exact (List.nodup_cons.1 hd2).1
              have HTK := thid htk
              have HDR := thid hdr
              have HNI := thid hnotin
              clear htk hdr hnotin
              generalize G[j] = y at *
              obtain ⟨c, hc⟩ := HU3.out y (by rw [HDR.out]; simp)
              have HFR := thid (L4.free_ok HE3.out.1.ar HO3.out hc)
              unfold nv at gbc
              have hcap : G.length ≤ gc := by
                obtain ⟨_, _, e, _, hcc⟩ := L4.owns_slice HE3.out.1.rg
                injection e with _ e1 e2
                omega
              unfold arV at HFR
              go_wp2_with fail
              refine HFR.out.mono ?_
              rintro e w4 ⟨rfl, s4, hA4, hp4, hab4, hm4⟩
              have HE4 := thid (HE3.out.1.moves hA4 hp4 hm4)
              have HS4 := thid (HE3.out.2.trans (Stp.moves (t := t) (x := x) HE3.out.1.bs hm4))
              have hab5 : s4.abs = s3.abs.free y := by rw [hab4]; simp
              have HOK4 : Hid s4.abs.Ok := by
                show s4.abs.Ok
                rw [hab4]
                exact HO3.out.free hc
              have HD : Hid (s4.p = s.p) ∧ Hid (s4.abs = (G.take (j + 1)).foldl (fun a n => a.free n) (Ld.foldl (fun a y => a.lay y.at_ (some (L5.pageL y.n.toNd))) s.abs)) ∧ Hid s4.abs.Ok ∧ Hid (∀ n ∈ G.drop (j + 1), ∃ c, s4.abs.at (n : Int) = some c) := by
                refine ⟨hp4.trans HP3.out, ?_, HOK4, fun n hn => ?_⟩
                · show s4.abs = _
                  rw [hab5, HTK.out, List.foldl_append, HA3.out]
                  rfl
                · obtain ⟨c', hc'⟩ := HU3.out n (by rw [HDR.out]; simp [hn])
                  refine ⟨c', ?_⟩
                  rw [hab5]
                  have hne : n ≠ y := fun e => HNI.out (e ▸ hn)
                  have : (s3.abs.free y).at (n : Int) = (s3.abs.lay y none).at (n : Int) := rfl
                  rw [this, at_lay_ne hne (at_pos hc)]
                  exact hc'
              clear HFR hA4 hm4 hab4 HE3 d0 d1 d2 d3 d4 d5 d6 dl df t0 t1 t2 t3 tl tf gbl gbc HOK4
              go_wp2
              exact ⟨⟨j + 1, by omega, by go_num, s4, HD.1, HD.2.1, HD.2.2.1, HD.2.2.2, HE4.out, HS4.out⟩, by simp [intOf]; omega⟩
            · have hlt' : (G.length : Int) ≤ (j : Int) := by omega
              have hjl : j = G.length := by omega
              subst hjl
              rw [List.take_length] at HA3
              obtain ⟨d0, d1, d2, d3, d4, d5, d6, dl, df⟩ := HE3.out.1.ed.cells
              obtain ⟨t0, t1, t2, t3, tl, tf⟩ := HE3.out.1.tr.cells
              have txn := tag_ne HE3.out.1.tr.blk HE3.out.1.ed (by decide)
              go_wp2_with fail
              refine wp_region_quiet_tail (fun w' => ∃ n, w' = World.drewN wr n) 8 (by kernel_rfl) (by kernel_rfl) ⟨1, rfl⟩ ?_
              simp only [List.take_succ_cons, List.take_zero, List.drop_succ_cons, List.drop_zero]
              repeat (go_big_quiet_step (fail))
              refine wpQuiet_nil ?_
              rintro _ ⟨nq, rfl⟩
              have hbd : Below wr.heap.size wr (wr.drewN nq) := below_drewN (Below.refl _ _) nq
              have HE5 := thid (HE3.out.1.below hbd)
              obtain ⟨z1, z2, z3⟩ := head_set x HE5.out.ar HE5.out.tr (B := B) xr xh xl
              have Z1 := thid z1
              have Z2 := thid z2
              have Z3 := thid ((HE3.out.2.trans (Stp.below hbd)).trans z3)
              clear HE3 HE5 z1 z2 z3 hbd
              go_wp2
              go_end0
              exact ⟨rfl, s3, HP3.out, HA3.out, HO3.out, Z1.out, by rw [← HP3.out]; exact Z2.out, Z3.out⟩
end Go.Proofs.YtjocopclgehciaaGreatDoor
/-
  Tree: Pages and Drop, at any tree.
-/
namespace Go.Proofs.YtjocopclgehciaaGreatDoor
open Go.RowKit
open L4 (Ar ArP Abs arV nv)
open L5 (ltP ltB leB)

set_option maxRecDepth 100000 in
set_option maxHeartbeats 1000000 in
theorem tpages_any {s : Ar} {t r h : Nat} {es : List ByteArray} {ps : List Nat} {w : World} (hT : TW s t r h es ps w) (hM : es.length ≤ 90000) :
    Calls Tryz.prog 40 #[.pointer (some ⟨t, 0, none⟩)] w fun e w' => ∃ a c, e = .returned (.slice a ps.length c) ∧ w'.ownsRow w.heap.size 3 1 (.slice a ps.length c) ps.length (L5.ivs (sortP ps)) ∧ Below w.heap.size w w' := by
  have HT := thid hT
  have HOV := thid (over_ok hT.tr (hT.tp.tall hT.ok).2.2)
  clear hT
  go_enter Tryz.func40, Tryz.ntmps40
  go_wp2_with fail
  refine HOV.out.mono ?_
  rintro e w1 ⟨rfl, B1⟩
  have HPG := thid (pages_any (HT.out.on B1) hM)
  have HB1 := thid B1
  clear HOV B1
  go_wp2_with fail
  refine HPG.out.mono ?_
  rintro e w2 ⟨a, c, rfl, o2, B2⟩
  have HF : Hid (w2.ownsRow w.heap.size 3 1 (.slice a ps.length c) ps.length (L5.ivs (sortP ps)) ∧ Below w.heap.size w w2) := ⟨L5.owns_base o2 HB1.out.size, tbelow_on HB1.out B2⟩
  clear o2 B2 HPG HB1
  go_wp2
  go_ret
  exact ⟨_, _, rfl, HF.out⟩

/-- The same pages, in order. -/
theorem sortP_nat (ps : List Nat) : ∃ qs : List Nat, sortP ps = qs.map (fun n : Nat => (n : Int)) ∧ qs.Perm ps := by
  have hp : (sortP ps).Perm (ps.map fun n : Nat => (n : Int)) := List.mergeSort_perm _ _
  refine ⟨(sortP ps).map Int.toNat, ?_, ?_⟩
  · rw [List.map_map]
    refine (List.map_id _).symm.trans (List.map_congr_left fun x hx => ?_)
    obtain ⟨n, _, rfl⟩ := List.mem_map.1 (hp.mem_iff.1 hx)
    simp
  · have := hp.map Int.toNat
    rw [List.map_map, show (Int.toNat ∘ fun n : Nat => (n : Int)) = id from funext fun n => by simp, List.map_id] at this
    exact this

/-- What a Drop leaves: an arena with the pages given back, a tree that is over. -/
structure Dropped (B : Nat) (s : Ar) (t : Nat) (qs : List Nat) (w w' : World) : Prop where
  ex : ∃ s' : Ar, s'.p = s.p ∧ s'.abs = qs.foldl (fun a n => a.free n) s.abs ∧ s'.abs.Ok ∧ ArP s' w' ∧ w'.heap[t]? = some (.cells #[.pointer none, .int .i64 0, .int .i64 0, .int .i64 0] 85 (0, 0)) ∧ Only (fun q => s.own q ∨ q = t ∨ B ≤ q) w w' ∧ (∀ q, s'.own q → s.own q ∨ w.heap.size ≤ q)

set_option maxRecDepth 100000 in
set_option maxHeartbeats 1000000 in
theorem drop_any {s : Ar} {t r h : Nat} {es : List ByteArray} {ps : List Nat} {w : World} (hT : TW s t r h es ps w) (hM : es.length ≤ 90000) :
    Calls Tryz.prog 43 #[.pointer (some ⟨t, 0, none⟩)] w fun e w' => e = .returned (.int .i64 0) ∧ ∃ qs : List Nat, qs.Perm ps ∧ Dropped w.heap.size s t qs w w' := by
  have HT := thid hT
  have HOV := thid (over_ok hT.tr (hT.tp.tall hT.ok).2.2)
  obtain ⟨qs, hq1, hq2⟩ := sortP_nat ps
  have hps := pages_le hT.ok hT.tp.nodup hT.tp.sub.pages
  have HND := thid (hq2.nodup_iff.2 hT.tp.nodup)
  have HUS := thid (fun n (hn : n ∈ qs) => hT.tp.sub.pages n (hq2.mem_iff.1 hn))
  have hql : qs.length = ps.length := hq2.length_eq
  have HQ2 := thid hq2
  clear hT hq2
  go_enter Tryz.func43, Tryz.ntmps43
  go_wp2_with fail
  refine HOV.out.mono ?_
  rintro e w1 ⟨rfl, B1⟩
  have HPG := thid (pages_any (HT.out.on B1) hM)
  have HB1 := thid B1
  rw [hq1, ← hql] at HPG
  have hq9 : qs.length ≤ 4096 := by omega
  clear hql hps hq1
  clear HOV B1
  go_wp2_with fail
  refine HPG.out.mono ?_
  rintro e w2 ⟨ga, gc, rfl, o2, B2⟩
  have HB2 := thid (tbelow_on HB1.out B2)
  have HO2 : Hid (w2.ownsRow w.heap.size 3 1 (.slice ga qs.length gc) qs.length (qs.map nv)) := by
    have := L5.owns_base o2 HB1.out.size
    rw [show L5.ivs (qs.map fun n : Nat => (n : Int)) = qs.map nv by unfold L5.ivs; rw [List.map_map]; rfl] at this
    exact this
  clear o2 B2 HPG HB1
  have HTW := thid (HT.out.on HB2.out)
  have HNT : Hid (¬ s.own t) := not_own HT.out.ar HT.out.tr.blk (by decide) (by decide) (by decide)
  have HOW : Hid (∀ q, s.own q → q < w.heap.size) := fun q hq => L4.arSt.lt s w q HT.out.ar hq
  clear HT
  go_wp2_with fail
  go_loopw [19] (fun i wr => ∃ j : Nat, j ≤ qs.length ∧ i = .int .i64 (j : Int) ∧ ∃ s3 : Ar, Hid (s3.p = s.p) ∧ Hid (s3.abs = (qs.take j).foldl (fun a n => a.free n) s.abs) ∧ Hid s3.abs.Ok ∧ Hid (∀ n ∈ qs.drop j, ∃ c, s3.abs.at (n : Int) = some c) ∧ Hid (ArP s3 wr ∧ L4.Moves L4.arSt s s3 w2 wr)) (fun i _ => qs.length - (intOf i).toNat)
  case atStart => exact ⟨0, Nat.zero_le _, rfl, s, rfl, rfl, HTW.out.ok, fun n hn => HUS.out n (by simpa using hn), HTW.out.ar, L4.Moves.refl _ _ _⟩
  case round =>
    obtain ⟨j, hj, rfl, s3, HP3, HA3, HO3, HU3, HE3⟩ := hrel
    have HTC : Hid (TrC wr t s.p r h es.length) := ⟨(HE3.out.2.only.block t (Array.getElem?_eq_some_iff.1 HTW.out.tr.blk).1 HNT.out).trans HTW.out.tr.blk⟩
    have HRW : Hid (wr.ownsRow w.heap.size 3 1 (.slice ga qs.length gc) qs.length (qs.map nv)) := L5.owns_of_block HO2.out fun q hq => HE3.out.2.only.block q (HO2.out.lt q hq).2 (fun x => by have := HOW.out q x; have := (HO2.out.lt q hq).1; omega)
    obtain ⟨t0, t1, t2, t3, tl, tf⟩ := HTC.out.cells
    by_cases hlt : j < qs.length
    · have hlt' : (j : Int) < (qs.length : Int) := by omega
      obtain ⟨gb, go, rfl, gbl, gbc⟩ := (L5.owns_rd_slice HRW.out).2.2 j (nv qs[j]) (by simp [hlt])
      have hdr : qs.drop j = qs[j] :: qs.drop (j + 1) := List.drop_eq_getElem_cons hlt
      have htk : qs.take (j + 1) = qs.take j ++ [qs[j]] := (List.take_append_getElem hlt).symm
      have hnotin : qs[j] ∉ qs.drop (j + 1) := by
        have hd2 : (qs.drop j).Nodup := HND.out.sublist (List.drop_sublist _ _)
        rw [hdr] at hd2
        exact (List.nodup_cons.1 hd2).1
      have HTK := thid htk
      have HDR := thid hdr
      have HNI := thid hnotin
      clear htk hdr hnotin
      generalize qs[j] = y at *
      obtain ⟨c, hc⟩ := HU3.out y (by rw [HDR.out]; simp)
      have HFR := thid (L4.free_ok HE3.out.1 HO3.out hc)
      unfold nv at gbc
      have hcap : qs.length ≤ gc := by
        obtain ⟨_, _, e, _, hcc⟩ := L4.owns_slice HRW.out
        injection e with _ e1 e2
        omega
      unfold arV at HFR
      rw [HP3.out] at HFR
      go_wp2_with fail
      refine HFR.out.mono ?_
      rintro e w4 ⟨rfl, s4, hA4, hp4, hab4, hm4⟩
      have HE4 := thid (And.intro hA4 (HE3.out.2.trans hm4))
      have hab5 : s4.abs = s3.abs.free y := by rw [hab4]; simp
      have HOK4 : Hid s4.abs.Ok := by
        show s4.abs.Ok
        rw [hab4]
        exact HO3.out.free hc
      have HD : Hid (s4.p = s.p) ∧ Hid (s4.abs = (qs.take (j + 1)).foldl (fun a n => a.free n) s.abs) ∧ Hid s4.abs.Ok ∧ Hid (∀ n ∈ qs.drop (j + 1), ∃ c, s4.abs.at (n : Int) = some c) := by
        refine ⟨hp4.trans HP3.out, ?_, HOK4, fun n hn => ?_⟩
        · show s4.abs = _
          rw [hab5, HTK.out, List.foldl_append, HA3.out]
          rfl
        · obtain ⟨c', hc'⟩ := HU3.out n (by rw [HDR.out]; simp [hn])
          refine ⟨c', ?_⟩
          rw [hab5]
          have hne : n ≠ y := fun e => HNI.out (e ▸ hn)
          have : (s3.abs.free y).at (n : Int) = (s3.abs.lay y none).at (n : Int) := rfl
          rw [this, at_lay_ne hne (at_pos hc)]
          exact hc'
      clear HFR hA4 hm4 hab4 HE3 t0 t1 t2 t3 tl tf gbl gbc HOK4
      go_wp2
      exact ⟨⟨j + 1, by omega, by go_num, s4, HD.1, HD.2.1, HD.2.2.1, HD.2.2.2, HE4⟩, by simp [intOf]; omega⟩
    · have hlt' : (qs.length : Int) ≤ (j : Int) := by omega
      have hjl : j = qs.length := by omega
      subst hjl
      rw [List.take_length] at HA3
      have HF : Hid (Dropped w.heap.size s t qs w ((((wr.setCell ⟨t, 0, none⟩ (.pointer none)).setCell ⟨t, 1, none⟩ (.int .i64 0)).setCell ⟨t, 2, none⟩ (.int .i64 0)).setCell ⟨t, 3, none⟩ (.int .i64 0))) := by
        have oth : ∀ q, q ≠ t → ((((wr.setCell ⟨t, 0, none⟩ (.pointer none)).setCell ⟨t, 1, none⟩ (.int .i64 0)).setCell ⟨t, 2, none⟩ (.int .i64 0)).setCell ⟨t, 3, none⟩ (.int .i64 0)).heap[q]? = wr.heap[q]? := fun q hq => by
          rw [heap_setCell_other _ _ _ _ hq, heap_setCell_other _ _ _ _ hq, heap_setCell_other _ _ _ _ hq, heap_setCell_other _ _ _ _ hq]
        have ht3 : ¬ s3.own t := not_own HE3.out.1 HTC.out.blk (by decide) (by decide) (by decide)
        have ho : Only (fun q => s.own q ∨ q = t ∨ w.heap.size ≤ q) w wr := only_join (Only.of_below HB2.out) HE3.out.2.only fun q hq => Or.inl (Or.inl hq)
        refine ⟨s3, HP3.out, HA3.out, HO3.out, L4.arSt.keep s3 wr _ HE3.out.1 (fun q hq => oth q fun e => ht3 (e ▸ hq)) (fun q cs hq => oth q (tag_ne hq HTC.out.blk (by decide))), ?_, ?_, fun q hq => ?_⟩
        · exact heap_setCell_same _ t 3 _ _ _ (heap_setCell_same _ t 2 _ _ _ (heap_setCell_same _ t 1 _ _ _ (heap_setCell_same _ t 0 _ _ _ HTC.out.blk)))
        · refine only_join ho (S' := fun q => q = t) ⟨rfl, rfl, rfl, by simp [World.setCell], fun q _ hn => oth q hn⟩ fun q hq => Or.inl (Or.inr (Or.inl hq))
        · rcases HE3.out.2.own q hq with hq | hq
          · exact Or.inl hq
          · exact Or.inr (Nat.le_trans HB2.out.size hq)
      clear HE3 HA3 HO3 HU3 HRW HTW HO2 HB2 HTC
      go_wp2_with fail
      refine bodyPost_ret (v := .int .i64 0) (by simp [results, Tryz.results43, go_sem]) rfl ⟨rfl, qs, HQ2.out, HF.out⟩
end Go.Proofs.YtjocopclgehciaaGreatDoor
