/-
  Tree: Each, at any tree, with any function.
-/
import Derived.Test.YtfdfamjajhmihaaGreatMBX
import Derived.Test.YtfdfamjajhmihaaGreatMAY
import Derived.Test.YtfdfamjajhmihaaGreatMBB
import Derived.Test.YtfdfamjajhmihaaGreatMAT
import Derived.Deep.RegionLaw
import Derived.Deep.CutRange
namespace Go.Proofs.YtfdfamjajhmihaaGreat
open Go.RowKit
open L4 (Ar ArP Abs arV nv)
open L5 (ltP ltB leB)

/-- From a text on. -/
def fromL (fr : ByteArray) (es : List ByteArray) : List ByteArray := es.filter fun e => !ltB fr e

theorem fromL_append (fr : ByteArray) (a b : List ByteArray) : fromL fr (a ++ b) = fromL fr a ++ fromL fr b := List.filter_append ..

theorem fromL_low {fr : ByteArray} {es : List ByteArray} (h : ∀ e ∈ es, ltP e fr) : fromL fr es = [] := by
  unfold fromL
  rw [List.filter_eq_nil_iff]
  intro e he
  rw [show ltB fr e = true from h e he]
  decide

theorem drop_from {l : List ByteArray} (h : l.Pairwise ltP) (fr : ByteArray) : l.drop (l.countP (ltB fr)) = fromL fr l := by
  induction l with
  | nil => rfl
  | cons x l ih =>
    unfold fromL
    rw [List.countP_cons, List.filter_cons]
    rcases lt_or x fr with hx | hx
    · rw [if_pos (ltB_iff.2 hx), show ltB fr x = true from hx]
      simp only [Bool.not_true, Bool.false_eq_true, if_false, List.drop_succ_cons]
      exact ih (List.pairwise_cons.1 h).2
    · have hn : ltB fr x = false := ltB_no.2 hx
      have hz : l.countP (ltB fr) = 0 := by
        rw [List.countP_eq_zero]
        intro y hy
        rw [show ltB fr y = false from ltB_no.2 (le_tr hx (le_of ((List.pairwise_cons.1 h).1 y hy)))]
        decide
      rw [hz, hn]
      simp only [Bool.false_eq_true, if_false, Bool.not_false, if_true, Nat.add_zero, List.drop_zero]
      congr 1
      refine (List.filter_eq_self.2 fun y hy => ?_).symm
      rw [show ltB fr y = false from ltB_no.2 (le_tr hx (le_of ((List.pairwise_cons.1 h).1 y hy)))]
      rfl

/-- The Kids that are left out have only entries below. -/
theorem subs_skip {a : Abs} {h : Nat} {hi lo fr : ByteArray} {rs es : List ByteArray} {cs : List Int} {ps : List Nat} (k : Subs (Sub a h) hi lo rs cs es ps) : (∀ r ∈ rs, r.size ≠ 0) → rs.Pairwise ltP → ∃ es1 es2 ps2, es = es1 ++ es2 ∧ (∀ e ∈ es1, ltP e fr) ∧ SubA a h (cs.drop (rs.countP (leB fr))) es2 ps2 := by
  induction k with
  | @one lo c es ps hP =>
    intro _ _
    refine ⟨[], es, ps, rfl, by simp, ?_⟩
    have := SubA.cons hP .nil
    simpa using this
  | @more lo r c es1 es2 rs cs ps1 ps2 hP t ih =>
    intro hz hw
    rcases lt_or fr r with hr | hr
    · have hc : (r :: rs).countP (leB fr) = 0 := by
        rw [List.countP_eq_zero]
        intro q hq
        rw [show leB fr q = false from leB_no.2 (by
          rcases List.mem_cons.1 hq with rfl | hq
          · exact hr
          · exact lt_tr hr ((List.pairwise_cons.1 hw).1 q hq))]
        decide
      rw [hc]
      exact ⟨[], _, _, rfl, by simp, .cons hP t.all⟩
    · obtain ⟨f1, f2, q2, e1, e2, e3⟩ := ih (fun q hq => hz q (by simp [hq])) (List.pairwise_cons.1 hw).2
      refine ⟨es1 ++ f1, f2, q2, by rw [e1]; simp, fun e he => ?_, ?_⟩
      · rcases List.mem_append.1 he with he | he
        · exact lt_le ((hP.bounds e he).2.resolve_left (hz r (by simp))) hr
        · exact e2 e he
      · rw [List.countP_cons, if_pos (leB_iff.2 hr)]
        exact e3

section
variable {σ γ : Type} {C : L4.St σ} {ct : σ → γ} {ph : γ → ByteArray → γ × Bool} {wg : γ → Nat} {M : Nat} {gf : FuncId} {ff cf : Array Value} {fr tt : ByteArray} {k : Nat} {a : Abs}

theorem feed_append (x y : List ByteArray) : ∀ g : γ, feed tt ph (x ++ y) g = if (feed tt ph x g).2 then ((feed tt ph x g).1, true) else feed tt ph y (feed tt ph x g).1 := by
  induction x with
  | nil => intro g; rfl
  | cons z x ih =>
    intro g
    rw [List.cons_append, feed, feed]
    split
    · rfl
    · split
      · exact ih _
      · rfl

theorem vl_feed {h : Nat} (ih : ∀ (c : Nat) (lo hi : ByteArray) (es : List ByteArray) (ps : List Nat) (g : γ) (b' : γ × Bool), Sub a h c lo hi es ps → Vs a fr (tellE fr tt ph) (fun b => b.2) h c (g, false) b' → b' = feed tt ph (fromL fr es) g) {cs : List Int} {es : List ByteArray} {ps : List Nat} (k : SubA a h cs es ps) : ∀ (g : γ) (b' : γ × Bool), Vl (Vs a fr (tellE fr tt ph) (fun b => b.2) h) (fun b => b.2) cs (g, false) b' → b' = feed tt ph (fromL fr es) g := by
  induction k with
  | nil =>
    intro g b' hv
    cases hv
    rfl
  | @cons c cs lo hi es1 es2 ps1 ps2 hs t ih2 =>
    intro g b' hv
    rw [fromL_append, feed_append]
    generalize hcc : (c : Int) :: cs = l at hv
    cases hv with
    | nil => cases hcc
    | @stop c' _ _ _ hP he =>
      simp only [List.cons.injEq] at hcc
      obtain ⟨h1, _⟩ := hcc
      have : c = c' := by omega
      subst this
      have e := ih c lo hi es1 ps1 g _ hs hP
      rw [← e, he]
      simp only [if_true]
      exact Prod.ext rfl he
    | @more c' _ _ b1 _ hP he tv =>
      simp only [List.cons.injEq] at hcc
      obtain ⟨h1, h2⟩ := hcc
      have : c = c' := by omega
      subst this
      subst h2
      have e := ih c lo hi es1 ps1 g b1 hs hP
      rw [← e, he]
      simp only [Bool.false_eq_true, if_false]
      refine ih2 b1.1 b' ?_
      have eb : b1 = (b1.1, false) := Prod.ext rfl he
      rw [← eb]
      exact tv

theorem vs_feed : ∀ (h c : Nat) (lo hi : ByteArray) (es : List ByteArray) (ps : List Nat) (g : γ) (b' : γ × Bool), Sub a h c lo hi es ps → Vs a fr (tellE fr tt ph) (fun b => b.2) h c (g, false) b' → b' = feed tt ph (fromL fr es) g := by
  intro h
  induction h with
  | zero => intro _ _ _ _ _ _ _ k; exact k.elim
  | succ h ih =>
    intro c lo hi es ps g b' hs hv
    obtain ⟨n, ps', hn, rfl, hb, hc⟩ := hs
    obtain ⟨m, hm, hd⟩ := hv
    have e := hm.uniq hn
    subst e
    obtain ⟨r1, r2⟩ := shaped_recs hn.shaped
    rcases hc with ⟨h0, hl, rfl, _⟩ | ⟨h0, hl, hsu⟩
    · rcases hd with ⟨_, _, rfl⟩ | ⟨h1, _, _⟩
      · unfold tellE
        rw [hl, drop_from r2]
        simp
      · exact absurd h0 h1
    · rcases hd with ⟨h1, _, _⟩ | ⟨_, _, hvl⟩
      · exact absurd h1 h0
      · obtain ⟨es1, es2, ps2, e1, e2, e3⟩ := subs_skip (fr := fr) hsu (fun r hr => by have := (r1 r hr).1; omega) r2
        have et : tellE fr tt ph (g, false) c m = (g, false) := by unfold tellE; rw [hl]; rfl
        rw [et] at hvl
        rw [e1, fromL_append, fromL_low e2, List.nil_append]
        exact vl_feed ih e3 g b' hvl

set_option maxRecDepth 100000 in
theorem teller (F : Fed C ct ph wg M gf ff cf) : Teller (walkSt C k fr tt (.func (.func gf) ff cf)) (fun b => (ct b.1, b.2)) (tellE fr tt ph) (fun b => b.2) (fun b => wg b.1) M 60 61 #[.pointer (some ⟨k, 0, none⟩)] #[] #[.pointer (some ⟨k, 0, none⟩)] #[] where
  gt := fun _ _ => rfl
  ge := fun _ _ => rfl
  tell := fun b W at_ n a c a' c' hP hNR ha hs _ hw => by
    obtain ⟨c0, o0⟩ := b
    exact tell_any F hP hNR ha hs hw
  enough := fun b W hP => by
    obtain ⟨c0, o0⟩ := b
    exact enough_any hP
  wts := fun b at_ n => by
    unfold tellE leafN
    cases n.leaf
    · simp
    · have := feed_wg (tt := tt) F.wgs (n.recs.drop (n.recs.countP (ltB fr))) b.1
      simp only [if_true]
      rw [List.length_drop] at this
      omega

set_option maxRecDepth 100000 in
set_option maxHeartbeats 1000000 in
theorem each_any (F : Fed C ct ph wg M gf ff cf) {s : Ar} {t r h : Nat} {es : List ByteArray} {ps : List Nat} {c : σ} {w : World} (hT : TW s t r h es ps w) (hp : C.P c w) (d1 : ∀ q, C.own c q → ¬ s.own q) (d2 : ∀ q, C.own c q → q ≠ t) (hM : wg (ct c) + es.length + ps.length ≤ M) :
    Calls Tryz.prog 25 #[.pointer (some ⟨t, 0, none⟩), .string fr, .string tt, .func (.func gf) ff cf] w fun e w' => e = .returned (.tuple #[]) ∧ ∃ c', C.P c' w' ∧ ct c' = (feed tt ph (fromL fr es) (ct c)).1 ∧ L4.Moves C c c' w w' := by
  have HT := thid hT
  have HP := thid hp
  have HF := thid F
  have HD := thid (And.intro d1 d2)
  have HOV := thid (over_ok hT.tr (hT.tp.tall hT.ok).2.2)
  have hmf : ∀ (fn : Fn) (first cap : Array Value) (w : World), (Instr.makeFunc fn first cap).run Tryz.prog w = .ok (.func fn first cap) w := fun _ _ _ _ => rfl
  have hfe := fun (fn : Fn) (first cap : Array Value) (w : World) => eql_func_nil w 44 fn first cap Tryz.underlying44
  clear hT hp F d1 d2
  go_enter Tryz.func25, Tryz.ntmps25
  go_wp2_with fail
  refine HOV.out.mono ?_
  rintro e w1 ⟨rfl, B1⟩
  have HB1 := thid B1
  clear HOV B1
  go_wp2_with fail
  have hb2 := tbelow_on HB1.out (tbelow w1 (.cells #[.string fr, .string tt, .func (.func gf) ff cf, .bool false] 115))
  have own1 : ∀ q, C.own c q → q < w.heap.size := fun q hq => C.lt c w q HP.out hq
  have own2 : ∀ q, s.own q → q < w.heap.size := fun q hq => L4.arSt.lt s w q HT.out.ar hq
  have tlt : t < w.heap.size := (Array.getElem?_eq_some_iff.1 HT.out.tr.blk).1
  have z1 := HB1.out.size
  have HTH := thid (through_any (teller (k := w1.heap.size) (fr := fr) (tt := tt) HF.out) (b := (c, false)) (fr := fr) (HT.out.on hb2) ⟨C.below HP.out hb2, heap_alloc_new w1 (.cells #[.string fr, .string tt, .func (.func gf) ff cf, .bool false] 115), fun x => by have := own1 _ x; omega⟩ (fun q hq ho => by
      rcases hq with hq | hq
      · exact HD.out.1 q hq ho
      · have := own2 q ho; omega) (fun q hq => by
      rcases hq with hq | hq
      · exact HD.out.2 q hq
      · omega) hM)
  have HB2 := thid hb2
  clear hb2
  refine HTH.out.mono ?_
  rintro e w4 ⟨rfl, b', hv, hp', hm⟩
  have HFI : Hid (∃ c', C.P c' w4 ∧ ct c' = (feed tt ph (fromL fr es) (ct c)).1 ∧ L4.Moves C c c' w w4) := by
    have e := vs_feed h r e0 e0 es ps (ct c) _ HT.out.tp.sub hv
    refine ⟨b'.1, hp'.1, congrArg Prod.fst e, only_join (Only.of_below HB2.out) hm.only (fun q hq => ?_), fun q hq => ?_⟩
    · rcases hq with hq | hq
      · exact Or.inl hq
      · exact Or.inr (by omega)
    · rcases hm.own q (Or.inl hq) with hq | hq
      · rcases hq with hq | hq
        · exact Or.inl hq
        · exact Or.inr (by omega)
      · exact Or.inr (Nat.le_trans HB2.out.size hq)
  clear hv hp' hm HTH HB2 HB1 HT HP
  go_wp2
  go_end0
  exact ⟨rfl, HFI.out⟩
end
end Go.Proofs.YtfdfamjajhmihaaGreat
/-
  Tree: All, at any tree.
-/
namespace Go.Proofs.YtfdfamjajhmihaaGreat
open Go.RowKit
open L4 (Ar ArP Abs arV nv)

/-- A list under way: its variable in block o. -/
def lstSt (o : Nat) : L4.St (Value × List ByteArray) where
  own b q := q = o ∨ b.1.ownBlock = some q
  P b W := W.heap[o]? = some (.cells #[b.1] 33 (0, 0)) ∧ W.ownsRow 0 9 1 b.1 b.2.length (L5.svs b.2)
  keep b w w' h hk _ := ⟨(hk o (Or.inl rfl)).trans h.1, L5.owns_of_block h.2 fun q hq => hk q (Or.inr hq)⟩
  lt b w q h hq := by
    rcases hq with rfl | hq
    · exact (Array.getElem?_eq_some_iff.1 h.1).1
    · exact (h.2.lt q hq).2
  tag b w q cs h hq := by
    intro e
    rcases hq with rfl | hq
    · rw [h.1] at e; simp at e
    · exact row_ne e h.2 (by decide) hq

set_option maxRecDepth 100000 in
set_option maxHeartbeats 1000000 in
theorem all1_any {o : Nat} {v : Value} {xs : List ByteArray} {s : ByteArray} {w : World} (k : (lstSt o).P (v, xs) w) (hx : xs.length ≤ 100000) :
    Calls Tryz.prog 52 #[.string s, .pointer (some ⟨o, 0, none⟩)] w fun e w' => e = .returned (.bool true) ∧ ∃ v', (lstSt o).P (v', xs ++ [s]) w' ∧ L4.Moves (lstSt o) (v, xs) (v', xs ++ [s]) w w' := by
  have HK := thid k
  have ol := (Array.getElem?_eq_some_iff.1 k.1).1
  have c0 : w.cell? ⟨o, 0, none⟩ = some v := by rw [cell_of_row _ _ _ _ _ _ k.1]; rfl
  have hf : ∀ i, w.frozen? ⟨o, i, none⟩ = false := fun i => frozen_of_row _ _ _ _ _ k.1
  have k2 : w.ownsRow 0 9 1 v xs.length (L5.svs xs) := k.2
  obtain ⟨va, vc, rfl⟩ := own_slice k2
  clear k k2
  go_enter Tryz.func52, Tryz.ntmps52
  have HB1 := thid (tbelow w (.cells #[.string s] 9))
  go_wp2_with (first
    | (at_builtin
       revert HB1)
    | fail)
  intro HB1
  have HK1 := thid ((lstSt o).below HK.out HB1.out)
  refine L5.append_row (z := .string ⟨#[]⟩) (by_ := 16) Tryz.underlying33 (by kernel_rfl) (by decide) rfl 0 (Nat.zero_le _) rfl _ _ rfl (.slice va xs.length vc) xs.length (L5.svs xs) [.string s] rfl HK1.out.2 (by omega) 1 (by omega) ⟨w.heap.size, 0, none⟩ 1 rfl rfl (fun i u hi => by
      rw [Addr.add_lit, cell_of_row _ _ _ _ _ _ (heap_alloc_new _ _)]
      simpa using hi) (fun u hu => by simp at hu; subst hu; rfl) ?_
  intro v' w5 hown hg hat
  have hno : (Value.slice va xs.length vc).ownBlock ≠ some o := row_ne HK1.out.1 HK1.out.2 (by decide)
  have b5 : w5.heap[o]? = some (.cells #[.slice va xs.length vc] 33 (0, 0)) := (hg.block o (Nat.lt_of_lt_of_le ol HB1.out.size) (fun e => hno e.symm)).trans HK1.out.1
  have c5 : w5.cell? ⟨o, 0, none⟩ = some (.slice va xs.length vc) := by rw [cell_of_row _ _ _ _ _ _ b5]; rfl
  have f5 : ∀ i, w5.frozen? ⟨o, i, none⟩ = false := fun i => frozen_of_row _ _ _ _ _ b5
  have l5 := (Array.getElem?_eq_some_iff.1 b5).1
  obtain ⟨ad, cp, rfl⟩ := L5.owns_at hown
  have HF : Hid ((lstSt o).P (.slice ad (xs.length + 1) cp, xs ++ [s]) (w5.setCell ⟨o, 0, none⟩ (.slice ad (xs.length + 1) cp)) ∧ L4.Moves (lstSt o) (.slice va xs.length vc, xs) (.slice ad (xs.length + 1) cp, xs ++ [s]) w (w5.setCell ⟨o, 0, none⟩ (.slice ad (xs.length + 1) cp))) := by
    refine ⟨⟨heap_setCell_same w5 o 0 _ _ _ b5, ?_⟩, ⟨hg.os.trans HB1.out.os, hg.tape.trans HB1.out.tape, hg.output.trans HB1.out.output, ?_, fun q hq hs => ?_⟩, fun q hq => ?_⟩
    · have h1 := ownsRow_setCell_other hown (a := ⟨o, 0, none⟩) (row_ne b5 hown (by decide)) (.slice ad (xs.length + 1) cp)
      show World.ownsRow _ 0 9 1 (.slice ad (xs.length + 1) cp) (xs ++ [s]).length (L5.svs (xs ++ [s]))
      rw [List.length_append, show L5.svs (xs ++ [s]) = L5.svs xs ++ [.string s] by simp [L5.svs]]
      exact h1
    · have z1 := HB1.out.size; have z2 := hg.size; simp [World.setCell]; omega
    · rw [heap_setCell_other _ _ _ _ (fun e => hs (Or.inl e)), hg.block q (Nat.lt_of_lt_of_le hq HB1.out.size) (fun e => hs (Or.inr e.symm)), HB1.out.block q hq]
    · rcases hq with hq | hq
      · exact Or.inl (Or.inl hq)
      · rcases hat q hq with hq | hq
        · exact Or.inl (Or.inr hq)
        · exact Or.inr (Nat.le_trans HB1.out.size hq)
  clear hown hg hat b5 HK HK1 HB1 c0 hf
  go_wp2
  go_ret
  exact ⟨rfl, _, HF.out⟩

set_option maxRecDepth 100000 in
theorem all_fed (o : Nat) : Fed (lstSt o) (fun b => b.2) (fun (g : List ByteArray) x => (g ++ [x], true)) List.length 100000 52 #[] #[.pointer (some ⟨o, 0, none⟩)] where
  gt := fun _ _ => rfl
  call := fun c W x hP hM _ => by
    obtain ⟨v, xs⟩ := c
    refine (all1_any (s := x) hP (by have : xs.length + 1 ≤ 100000 := hM; omega)).mono ?_
    rintro e w' ⟨rfl, v', h1, h2⟩
    exact ⟨rfl, (v', xs ++ [x]), h1, rfl, h2⟩
  wgs := fun c x => by simp

theorem feed_all {tt : ByteArray} (ht : tt.size = 0) (l : List ByteArray) : ∀ g : List ByteArray, feed tt (fun (g : List ByteArray) x => (g ++ [x], true)) l g = (g ++ l, false) := by
  induction l with
  | nil => intro g; simp [feed]
  | cons x l ih =>
    intro g
    rw [feed, if_neg (fun h => h.1 ht)]
    simp only [if_true]
    rw [ih]
    simp

theorem from_all (es : List ByteArray) : fromL ⟨#[]⟩ es = es := by
  unfold fromL
  refine List.filter_eq_self.2 fun y _ => ?_
  rw [show L5.ltB ⟨#[]⟩ y = false from ltB_no.2 (le_e0 y)]
  rfl

theorem owns_raise {W : World} {B B' : Nat} {e : TypeId} {m n : Nat} {v : Value} {xs : List Value} (h : W.ownsRow B e m v n xs) (hb : ∀ q, v.ownBlock = some q → B' ≤ q) : W.ownsRow B' e m v n xs := by
  refine ⟨h.1, ?_⟩
  rcases h.2 with hn | ⟨g, cap, cur, rfl, _, rest⟩
  · exact .inl hn
  · exact .inr ⟨g, cap, cur, rfl, hb g rfl, rest⟩

set_option maxRecDepth 100000 in
set_option maxHeartbeats 1000000 in
theorem all_any {s : Ar} {t r h : Nat} {es : List ByteArray} {ps : List Nat} {w : World} (hT : TW s t r h es ps w) (hM : es.length ≤ 90000) :
    Calls Tryz.prog 19 #[.pointer (some ⟨t, 0, none⟩)] w fun e w' => ∃ a c, e = .returned (.slice a es.length c) ∧ w'.ownsRow w.heap.size 9 1 (.slice a es.length c) es.length (L5.svs es) ∧ Below w.heap.size w w' := by
  have hb := tbelow w (.cells #[.slice none 0 0] 33)
  have hps := pages_le hT.ok hT.tp.nodup hT.tp.sub.pages
  have hnew : (lstSt w.heap.size).P (.slice none 0 0, []) (w.alloc (.cells #[.slice none 0 0] 33)) := ⟨heap_alloc_new _ _, ⟨rfl, Or.inl ⟨rfl, rfl⟩⟩⟩
  have own0 : ∀ q, (lstSt w.heap.size).own (.slice none 0 0, []) q → q = w.heap.size := fun q hq => by
    rcases hq with hq | hq
    · exact hq
    · simp [Value.ownBlock] at hq
  have HEA := thid (each_any (fr := ⟨#[]⟩) (tt := ⟨#[]⟩) (all_fed w.heap.size) (hT.on hb) hnew (fun q hq ho => by
      have := own0 q hq
      have := L4.arSt.lt s w q hT.ar ho
      omega) (fun q hq => by
      have := own0 q hq
      have := (Array.getElem?_eq_some_iff.1 hT.tr.blk).1
      omega) (by show ([] : List ByteArray).length + es.length + ps.length ≤ 100000; simp; omega))
  have HB := thid hb
  have hmf : ∀ (fn : Fn) (first cap : Array Value) (w : World), (Instr.makeFunc fn first cap).run Tryz.prog w = .ok (.func fn first cap) w := fun _ _ _ _ => rfl
  clear hT hb hnew
  go_enter Tryz.func19, Tryz.ntmps19
  go_wp2_with fail
  refine HEA.out.mono ?_
  rintro e w4 ⟨rfl, ⟨v', xs⟩, hp, hct, hm⟩
  have hxs : xs = es := by
    have : xs = (feed ⟨#[]⟩ (fun (g : List ByteArray) x => (g ++ [x], true)) (fromL ⟨#[]⟩ es) []).1 := hct
    rw [this, feed_all rfl, from_all]
    rfl
  subst hxs
  have c0 : w4.cell? ⟨w.heap.size, 0, none⟩ = some v' := by rw [cell_of_row _ _ _ _ _ _ hp.1]; rfl
  have hp2 : w4.ownsRow 0 9 1 v' xs.length (L5.svs xs) := hp.2
  obtain ⟨a, c, rfl⟩ := own_slice hp2
  have HF : Hid (w4.ownsRow w.heap.size 9 1 (.slice a xs.length c) xs.length (L5.svs xs) ∧ Below w.heap.size w w4) := by
    have hz := HB.out.size
    refine ⟨owns_raise hp.2 fun q hq => ?_, HB.out.trans (hm.only.below HB.out.size fun q hq x => ?_)⟩
    · rcases hm.own q (Or.inr hq) with hq | hq
      · have := own0 q hq; omega
      · omega
    · have := own0 q x; omega
  clear hp hm HEA HB hct
  go_wp2
  go_ret
  exact ⟨a, c, rfl, HF.out⟩
end Go.Proofs.YtfdfamjajhmihaaGreat
/-
  Tree: the document's example.
-/
namespace Go.Proofs.YtfdfamjajhmihaaGreat
open Go.RowKit
open L4 (Ar ArP Abs arV nv)

def bA : ByteArray := ⟨#[97]⟩
def bB : ByteArray := ⟨#[98]⟩
def leafB : L5.No := ⟨true, [bB], []⟩
def leafAB : L5.No := ⟨true, [bA, bB], []⟩
def leafA : L5.No := ⟨true, [bA], []⟩

theorem lt_ab : Op.bytesLess bA.toList bB.toList = true := by rw [ByteArray.toList_eq, ByteArray.toList_eq]; decide
theorem lt_ba : Op.bytesLess bB.toList bA.toList = false := by rw [ByteArray.toList_eq, ByteArray.toList_eq]; decide
theorem lt_bb : Op.bytesLess bB.toList bB.toList = false := by rw [ByteArray.toList_eq]; decide
theorem eq_ba : (bB.toList == bA.toList) = false := by rw [ByteArray.toList_eq, ByteArray.toList_eq]; decide
theorem eq_bb : (bB.toList == bB.toList) = true := by simp

theorem cnt1 : leaf0.recs.countP (L5.ltB bB) = 0 := rfl
theorem cnt2 : leafB.recs.countP (L5.ltB bA) = 0 := by simp [leafB, L5.ltB, lt_ba]
theorem cnt3 : leafAB.recs.countP (L5.ltB bB) = 1 := by simp [leafAB, L5.ltB, lt_ab, lt_bb]
theorem is1 : L5.isAt leaf0.recs bB 0 = false := rfl
theorem is2 : L5.isAt leafB.recs bA 0 = false := eq_ba
theorem is3 : L5.isAt leafAB.recs bB 1 = true := eq_bb
theorem sh1 : leafB.shaped = true := by decide
theorem sh2 : leafAB.shaped = true := by
  simp [L5.No.shaped, leafAB, L5.recOk, List.range_succ, lt_ab]
  decide
theorem sh3 : leafA.shaped = true := by decide
theorem sm1 : leafB.small := ⟨by decide, by decide, fun s hs => by simp [leafB] at hs; subst hs; decide⟩
theorem sm2 : leafAB.small := ⟨by decide, by decide, fun s hs => by simp [leafAB] at hs; rcases hs with rfl | rfl <;> decide⟩
theorem sm3 : leafA.small := ⟨by decide, by decide, fun s hs => by simp [leafA] at hs; subst hs; decide⟩

/-- A tree of the call's own with one leaf. -/
structure Mine (w : World) (s : Ar) (t l : Nat) (nd : L5.No) (w' : World) : Prop where
  one : One s t 1 l nd w'
  own : ∀ k, s.own k → w.heap.size ≤ k
  tl : w.heap.size ≤ t
  bel : Below w.heap.size w w'
  left : 2 ≤ s.abs.left

theorem Mine.on {w : World} {s : Ar} {t l : Nat} {nd : L5.No} {w1 w2 : World} (k : Mine w s t l nd w1) (hb : Below w1.heap.size w1 w2) : Mine w s t l nd w2 := ⟨k.one.below hb, k.own, k.tl, tbelow_on k.bel hb, k.left⟩

theorem Mine.has {w : World} {s : Ar} {t l l' : Nat} {nd nd' : L5.No} {w1 w2 : World} (k : Mine w s t l nd w1) (h : TrHas s t (s.abs.lay 1 (some (L5.pageL nd'.toNd))) 1 1 l' w1 w2) (h1 : nd'.shaped = true) (h2 : nd'.size ≤ 1024) (h3 : nd'.leaf = true) (h4 : nd'.small) : ∃ s', Mine w s' t l' nd' w2 := by
  obtain ⟨s', hp, hab, hok, hA, hT, hO, hw⟩ := h
  refine ⟨s', ⟨hA, hok, by rw [hp]; exact hT, by rw [hab]; exact at_lay_same k.one.at_ _, h1, h2, h3, h4, by decide⟩, fun q hq => ?_, k.tl, ?_, ?_⟩
  · rcases hw q hq with y | y
    · exact k.own q y
    · exact Nat.le_trans k.bel.size y
  · refine k.bel.trans (hO.below k.bel.size fun q hq x => ?_)
    rcases x with x | x
    · have := k.own q x; omega
    · have := k.tl; omega
  · rw [hab]
    have := k.left
    unfold L4.Abs.left L4.Abs.used at this ⊢
    simpa [L4.Abs.lay] using this

/-- A new tree in a new arena. -/
theorem Mine.new {q : Nat} {w : World} {s : Ar} {w1 w2 : World} (h : L4.Fresh q w s w1) (hq : 3 ≤ q) (hq2 : q ≤ 4096) (hn : TrHas s w1.heap.size (s.abs.alloc.lay s.abs.next (some (L5.pageL leaf0.toNd))) s.abs.next 1 0 w1 w2) : ∃ s', Mine w s' w1.heap.size 0 leaf0 w2 := by
  obtain ⟨_, hab0, hB, hown⟩ := h
  obtain ⟨s', hp, hab, hok, hA, hT, hO, hw⟩ := hn
  have e1 : s.abs.next = 1 := by rw [hab0]; rfl
  rw [e1] at hT hab
  have hok0 : s.abs.Ok := by
    rw [hab0]
    exact ⟨by simp, by simp, by simp, by simp, by simp, hq2⟩
  have hat := (L4.Abs.alloc_used hok0).2.2
  rw [e1] at hat
  refine ⟨s', ⟨hA, hok, by rw [hp]; exact hT, by rw [hab]; exact at_lay_same hat _, by decide, by decide, rfl, leaf0_small, by decide⟩, fun k hk => ?_, hB.size, ?_, ?_⟩
  · rcases hw k hk with y | y
    · exact hown k y
    · exact Nat.le_trans hB.size y
  · refine hB.trans (hO.below hB.size fun k hk x => ?_)
    rcases x with x | x
    · have := hown k x; omega
    · have := hB.size; omega
  · rw [hab, hab0]
    simp [L4.Abs.left, L4.Abs.used, L4.Abs.lay, L4.Abs.alloc, L4.Abs.take, L4.Abs.next]
    omega

theorem ins1 {w : World} {s : Ar} {t : Nat} {w1 : World} (k : Mine w s t 0 leaf0 w1) : Calls Tryz.prog 30 #[.pointer (some ⟨t, 0, none⟩), .string ⟨#[98]⟩] w1 fun e w' => e = .returned (.int .i64 0) ∧ ∃ s', Mine w s' t 1 leafB w' := by
  refine (tinsert_fit (k := bB) k.one (by decide) (by decide) (by rw [cnt1]; exact is1) k.left (by rw [cnt1]; exact sm1) (by rw [cnt1]; exact sh1) (by rw [cnt1]; exact (by decide : leafB.size ≤ 1024)) (by decide)).mono ?_
  rintro e w2 ⟨rfl, h⟩
  rw [cnt1] at h
  exact ⟨rfl, k.has (nd' := leafB) h sh1 (by decide) rfl sm1⟩

theorem ins2 {w : World} {s : Ar} {t : Nat} {w1 : World} (k : Mine w s t 1 leafB w1) : Calls Tryz.prog 30 #[.pointer (some ⟨t, 0, none⟩), .string ⟨#[97]⟩] w1 fun e w' => e = .returned (.int .i64 0) ∧ ∃ s', Mine w s' t 2 leafAB w' := by
  refine (tinsert_fit (k := bA) k.one (by decide) (by decide) (by rw [cnt2]; exact is2) k.left (by rw [cnt2]; exact sm2) (by rw [cnt2]; exact sh2) (by rw [cnt2]; exact (by decide : leafAB.size ≤ 1024)) (by decide)).mono ?_
  rintro e w2 ⟨rfl, h⟩
  rw [cnt2] at h
  exact ⟨rfl, k.has (nd' := leafAB) h sh2 (by decide) rfl sm2⟩

theorem del3 {w : World} {s : Ar} {t : Nat} {w1 : World} (k : Mine w s t 2 leafAB w1) : Calls Tryz.prog 38 #[.pointer (some ⟨t, 0, none⟩), .string ⟨#[98]⟩] w1 fun e w' => e = .returned (.int .i64 0) ∧ ∃ s', Mine w s' t 1 leafA w' := by
  refine (tdelete_one (k := bB) (l := 1) k.one (by rw [cnt3]; exact is3) (by rw [cnt3]; decide) (by decide) (by rw [cnt3]; exact sm3) (by rw [cnt3]; exact sh3) (by rw [cnt3]; exact (by decide : leafA.size ≤ 1024)) (by decide)).mono ?_
  rintro e w2 ⟨rfl, h⟩
  rw [cnt3] at h
  exact ⟨rfl, k.has (nd' := leafA) h sh3 (by decide) rfl sm3⟩

set_option maxRecDepth 100000 in
set_option maxHeartbeats 1000000 in
theorem awake_walk (w : World) : Calls Tryz.prog 9 #[] w fun e w' => e = .returned (.bool true) ∧ Below w.heap.size w w' := by
  go_enter Tryz.func9, Tryz.ntmps9
  go_wp2_with fail
  refine (L4.new_ok 20 (by decide) _).mono ?_
  rintro e w1 ⟨s, rfl, hF⟩
  have HF := thid hF
  have hok0 : s.abs.Ok := by
    rw [hF.2.1]
    exact ⟨by simp, by simp, by simp, by simp, by simp, by decide⟩
  have hl0 : 0 < s.abs.left := by rw [hF.2.1]; decide
  have HN := thid (new_ok hF.1 hok0 hl0)
  clear hF
  unfold arV at HN ⊢
  go_wp2_with fail
  refine HN.out.mono ?_
  rintro e w2 ⟨rfl, hT⟩
  obtain ⟨s2, hM⟩ := Mine.new HF.out (by decide) (by decide) hT
  clear HN HF hT hok0 hl0
  generalize w1.heap.size = t at hM ⊢
  have HM2 := thid hM
  clear hM
  go_wp2_with fail
  refine (ins1 HM2.out).mono ?_
  rintro e w3 ⟨rfl, s3, hM⟩
  have HM3 := thid hM
  clear hM HM2
  go_wp2_with fail
  refine (ins2 HM3.out).mono ?_
  rintro e w4 ⟨rfl, s4, hM⟩
  have HM4 := thid hM
  clear hM HM3
  go_wp2_with fail
  refine (all_one HM4.out.one).mono ?_
  rintro e w5 ⟨a, c, rfl, ho, hb⟩
  have HM5 := thid (HM4.out.on hb)
  have hrd := L5.owns_rd_slice ho
  obtain ⟨b, of, rfl, hbl, hbc⟩ := hrd.2.2 0 (.string bA) rfl
  have hcc : 2 ≤ c := hrd.1
  have hbc' : w5.cell? ⟨b, of, none⟩ = some (.string ⟨#[97]⟩) := hbc
  have e2 : leafAB.recs.length = 2 := rfl
  rw [e2]
  clear ho hb hrd HM4 hbc
  go_wp2_with fail
  refine (del3 HM5.out).mono ?_
  rintro e w6 ⟨rfl, s6, hM⟩
  have HM6 := thid hM
  clear hM HM5 hbc' hbl hcc
  go_wp2_with fail
  refine (len_ok HM6.out.one.tr).mono ?_
  rintro e w7 ⟨rfl, hb⟩
  have HM7 := thid (HM6.out.on hb)
  clear hb HM6
  go_wp2_with fail
  refine (height_ok HM7.out.one.tr).mono ?_
  rintro e w8 ⟨rfl, hb⟩
  have HM8 := thid (tbelow_on HM7.out.bel hb)
  clear hb HM7
  go_wp2
  go_ret
  exact ⟨rfl, HM8.out⟩
end Go.Proofs.YtfdfamjajhmihaaGreat
/-
  Tree: two trees in one arena that are only put into.
-/
namespace Go.Proofs.YtfdfamjajhmihaaGreat
open Go.RowKit
open L4 (Ar ArP Abs arV nv)
open L5 (ltP)

theorem leaf0_shaped : leaf0.shaped = true := by decide
theorem leaf0_size : leaf0.size ≤ 1024 := by decide

/-- A new tree. -/
theorem tnew {s : Ar} {w : World} (hA : ArP s w) (ho : s.abs.Ok) (hl : 0 < s.abs.left) :
    Calls Tryz.prog 12 #[arV s.p] w fun e w' => e = .returned (.tuple #[.pointer (some ⟨w.heap.size, 0, none⟩), .int .i64 0]) ∧ ∃ s' r, TW s' w.heap.size r 1 [] [r] w' ∧ s'.p = s.p ∧ Grew s.abs s'.abs [] [r] ∧ Only (fun k => s.own k ∨ k = w.heap.size) w w' ∧ (∀ k, s'.own k → s.own k ∨ w.heap.size ≤ k) := by
  refine (new_ok hA ho hl).mono ?_
  rintro e w' ⟨rfl, s', hp, hab, hok, hA', hT, hon, hown⟩
  obtain ⟨n1, n2⟩ := next_pos ho
  obtain ⟨⟨z, a1⟩, a2⟩ := at_alloc ho
  obtain ⟨u1, u2⟩ := used_alloc ho
  have hab' : s'.abs = layN s.abs.alloc s.abs.next leaf0 := hab
  have hH : Holds s'.abs s.abs.next leaf0 := by rw [hab']; exact Holds.lay a1 leaf0_shaped leaf0_size leaf0_small
  have hB : Body (Sub s'.abs 0) 0 leaf0 e0 e0 [] [] := ⟨fun r hr => by simp [leaf0] at hr, Or.inl ⟨rfl, rfl, rfl, rfl⟩⟩
  have hS : Sub s'.abs 1 s.abs.next e0 e0 [] [s.abs.next] := ⟨leaf0, [], hH, rfl, hB⟩
  have hTr : TrC w' w.heap.size s'.p s.abs.next 1 ([] : List ByteArray).length := by rw [hp]; exact hT
  have hTP : TreeP s'.abs s.abs.next 1 ([] : List ByteArray).length [] [s.abs.next] := ⟨hS, rfl, by simp⟩
  refine ⟨rfl, s', s.abs.next, ⟨hA', hok, hTr, hTP⟩, hp, ⟨hok, ?_, by simp, fun p hp => absurd hp (by simp), fun p hp => ?_, fun p _ hc' => ?_, ?_⟩, hon, hown⟩
  · rw [hab', (layN_used _ _ _).2.1, u2]
  · simp at hp; subst hp; exact Or.inr n2
  · obtain ⟨c, hc⟩ := hc'
    have hne : p ≠ s.abs.next := fun e => by rw [e, n2] at hc; cases hc
    rw [hab']
    unfold layN
    rw [at_lay_ne hne n1, a2 p hne]
  · rw [hab', (layN_used _ _ _).1, u1]
    rfl

/-- Two trees in one arena, all of the call's own. -/
structure Two (w0 : World) (s : Ar) (t u rt ht ru hu : Nat) (es fs : List ByteArray) (ps qs : List Nat) (w : World) : Prop where
  a : TW s t rt ht es ps w
  b : TW s u ru hu fs qs w
  dj : ∀ p ∈ ps, p ∉ qs
  used : s.abs.used = ps.length + qs.length
  q : s.abs.q = 4000
  fa : Fat s.abs es ps
  fb : Fat s.abs fs qs
  own : ∀ k, s.own k → w0.heap.size ≤ k
  tl : w0.heap.size ≤ t
  ul : w0.heap.size ≤ u
  ne : t ≠ u
  bel : Below w0.heap.size w0 w

theorem Two.on {w0 : World} {s : Ar} {t u rt ht ru hu : Nat} {es fs : List ByteArray} {ps qs : List Nat} {w w' : World} (k : Two w0 s t u rt ht ru hu es fs ps qs w) (hb : Below w.heap.size w w') : Two w0 s t u rt ht ru hu es fs ps qs w' :=
  ⟨k.a.on hb, k.b.on hb, k.dj, k.used, k.q, k.fa, k.fb, k.own, k.tl, k.ul, k.ne, tbelow_on k.bel hb⟩

/-- What putting makes of the entries, where pages never lack. -/
def insF (es : List ByteArray) (k : ByteArray) : List ByteArray := if (1 ≤ k.size ∧ k.size ≤ 400) ∧ ¬ (es.any fun e => e.toList == k.toList) = true then insK k es else es

theorem any_mem (es : List ByteArray) (k : ByteArray) : (es.any fun e => e.toList == k.toList) = true ↔ k ∈ es := by
  rw [List.any_eq_true]
  constructor
  · rintro ⟨e, h1, h2⟩
    have : e = k := ba_ext (by simpa using h2)
    exact this ▸ h1
  · exact fun h => ⟨k, h, by simp⟩

theorem insF_in {es : List ByteArray} {k : ByteArray} (h : (1 ≤ k.size ∧ k.size ≤ 400) ∧ k ∉ es) : insF es k = insK k es := if_pos ⟨h.1, fun e => h.2 ((any_mem es k).1 e)⟩
theorem insF_out {es : List ByteArray} {k : ByteArray} (h : ¬ ((1 ≤ k.size ∧ k.size ≤ 400) ∧ k ∉ es)) : insF es k = es := if_neg fun e => h ⟨e.1, fun m => e.2 ((any_mem es k).2 m)⟩

theorem insF_mem (es : List ByteArray) (k x : ByteArray) : x ∈ insF es k ↔ x ∈ es ∨ (x = k ∧ 1 ≤ k.size ∧ k.size ≤ 400) := by
  by_cases h : (1 ≤ k.size ∧ k.size ≤ 400) ∧ k ∉ es
  · rw [insF_in h, insK_mem]
    constructor
    · rintro (rfl | h')
      · exact Or.inr ⟨rfl, h.1⟩
      · exact Or.inl h'
    · rintro (h' | ⟨rfl, _⟩)
      · exact Or.inr h'
      · exact Or.inl rfl
  · rw [insF_out h]
    constructor
    · exact Or.inl
    · rintro (h' | ⟨rfl, h1⟩)
      · exact h'
      · by_cases hm : x ∈ es
        · exact hm
        · exact absurd ⟨h1, hm⟩ h

theorem insF_len (es : List ByteArray) (k : ByteArray) : (insF es k).length ≤ es.length + 1 := by
  unfold insF
  split
  · rw [insK_len]; exact Nat.le_refl _
  · omega

end Go.Proofs.YtfdfamjajhmihaaGreat
/-
  TreeOrders: its walk.
-/
namespace Go.Proofs.YtfdfamjajhmihaaGreat
open Go.RowKit
open L4 (Ar ArP Abs arV nv)
open L5 (ltP)

set_option maxRecDepth 100000 in
set_option maxHeartbeats 1000000 in
theorem same_strs {l : List ByteArray} {a b : Option Addr} {c d : Nat} {w : World} (h1 : L5.Rd w a c (L5.svs l)) (h2 : L5.Rd w b d (L5.svs l)) (hl : l.length ≤ 100000) :
    Calls Tryz.prog 18 #[.slice a l.length c, .slice b l.length d] w fun e w' => e = .returned (.bool true) ∧ Below w.heap.size w w' := by
  have H1 := thid h1
  have H2 := thid h2
  clear h1 h2
  go_enter Tryz.func18, Tryz.ntmps18
  go_wp2_with fail
  go_loopw [5] (fun i wr => ∃ j : Nat, j ≤ l.length ∧ i = .int .i64 (j : Int) ∧ Hid (Below w.heap.size w wr)) (fun i _ => l.length - (intOf i).toNat)
  case atStart => exact ⟨0, Nat.zero_le _, rfl, Below.refl _ _⟩
  case round =>
    obtain ⟨j, hj, rfl, HB⟩ := hrel
    by_cases hlt : j < l.length
    · have hlt' : (j : Int) < (l.length : Int) := by omega
      obtain ⟨x1, o1, rfl, l1, c1⟩ := H1.out.str j hlt
      obtain ⟨x2, o2, rfl, l2, c2⟩ := H2.out.str j hlt
      generalize l[j] = y at *
      have e1 := (HB.out.cell (p := ⟨x1, o1 + j, none⟩) l1).trans c1
      have e2 := (HB.out.cell (p := ⟨x2, o2 + j, none⟩) l2).trans c2
      have m1 : x1 < wr.heap.size := Nat.lt_of_lt_of_le l1 HB.out.size
      have m2 : x2 < wr.heap.size := Nat.lt_of_lt_of_le l2 HB.out.size
      have hyy : (y.toList != y.toList) = false := by simp
      go_wp2_with fail
      go_quiet (fail)
      go_wp2
      exact ⟨⟨j + 1, by omega, by go_num, by first | exact HB | exact below_drewN HB.out _⟩, by simp [intOf]; omega⟩
    · have hlt' : (l.length : Int) ≤ (j : Int) := by omega
      go_wp2
      go_ret
      exact ⟨rfl, HB.out⟩

/-- The texts that count. -/
def okT (x : ByteArray) : Prop := 1 ≤ x.size ∧ x.size ≤ 400

/-- What is left, and what was put. -/
structure Lf (l : List ByteArray) (n : Nat) (fs ls : List ByteArray) : Prop where
  cnt : n + ls.length = l.length
  few : fs.length ≤ n
  put : ∀ x ∈ fs, okT x ∧ x ∈ l
  all : ∀ x ∈ l, okT x → x ∈ fs ∨ x ∈ ls
  sub : ∀ x ∈ ls, x ∈ l

theorem Lf.next {l : List ByteArray} {n : Nat} {fs ls : List ByteArray} (h : Lf l n fs ls) {k : Nat} (hk : k < ls.length) : Lf l (n + 1) (insF fs ls[k]) (ls.take k ++ ls.drop (k + 1)) := by
  have hsp : ls = ls.take k ++ ls[k] :: ls.drop (k + 1) := by rw [← List.drop_eq_getElem_cons hk, List.take_append_drop]
  refine ⟨?_, Nat.le_trans (insF_len _ _) (by have := h.few; omega), fun x hx => ?_, fun x hx ho => ?_, fun x hx => h.sub x ?_⟩
  · have := h.cnt
    simp
    omega
  · rcases (insF_mem _ _ x).1 hx with hx | ⟨rfl, ho⟩
    · exact h.put x hx
    · exact ⟨ho, h.sub _ (List.getElem_mem hk)⟩
  · rcases h.all x hx ho with hm | hm
    · exact Or.inl ((insF_mem _ _ x).2 (Or.inl hm))
    · rw [hsp] at hm
      rcases List.mem_append.1 hm with hm | hm
      · exact Or.inr (List.mem_append_left _ hm)
      · rcases List.mem_cons.1 hm with hm | hm
        · exact Or.inl ((insF_mem _ _ x).2 (Or.inr ⟨hm, by rw [← hm]; exact ho⟩))
        · exact Or.inr (List.mem_append_right _ hm)
  · rcases List.mem_append.1 hx with hx | hx
    · exact List.mem_of_mem_take hx
    · exact List.mem_of_mem_drop hx

end Go.Proofs.YtfdfamjajhmihaaGreat
