import Derived.Test.YtiohkehcpkfleaaGreatMAW
set_option maxRecDepth 100000
set_option maxHeartbeats 4000000
namespace Go.Proofs.YtiohkehcpkfleaaGreat
open Go.RowKit
open L4 (Abs)
open L5 (ltP ltB leB)
theorem Holds.uniq {a : Abs} {at_ : Nat} {n m : L5.No} (h : Holds a at_ n) (k : Holds a at_ m) : n = m := by
 have e : L5.pageL n.toNd = L5.pageL m.toNd := Option.some.inj (h.page.symm.trans k.page)
 have e2 := L5.page_inj (L5.shaped_toNd h.shaped) (by rw [L5.toNd_size]; exact h.size) (L5.shaped_toNd k.shaped) (by rw [L5.toNd_size]; exact k.size) e
 have hk : ∀ {n : L5.No}, n.shaped = true -> ∀ x ∈ n.kids, (0 : Int) <= x := fun {n} hs x hx => by
  cases hl : n.leaf
  · have := (shaped_kids hs hl).1 x hx; omega
  · rw [shaped_leaf hs hl] at hx; cases hx
 obtain ⟨l1, r1, k1⟩ := n
 obtain ⟨l2, r2, k2⟩ := m
 unfold L5.No.toNd at e2
 injection e2 with q1 q2 q3
 have er : r1 = r2 := by
  have inj : ∀ (x y : List ByteArray), x.map (·.data.toList) = y.map (·.data.toList) -> x = y := by
   intro x
   induction x with
   | nil => intro y h; cases y with | nil => rfl | cons b y => simp at h
   | cons a x ih =>
    intro y h
    cases y with
    | nil => simp at h
    | cons b y =>
     simp only [List.map_cons, List.cons.injEq] at h
     have : a = b := ByteArray.ext (Array.toList_inj.1 h.1)
     rw [this, ih y h.2]
  exact inj _ _ q2
 have ek : k1 = k2 := by
  have inj : ∀ (x y : List Int), (∀ z ∈ x, 0 <= z) -> (∀ z ∈ y, 0 <= z) -> x.map Int.toNat = y.map Int.toNat -> x = y := by
   intro x
   induction x with
   | nil => intro y _ _ h; cases y with | nil => rfl | cons b y => simp at h
   | cons a x ih =>
    intro y hx hy h
    cases y with
    | nil => simp at h
    | cons b y =>
     simp only [List.map_cons, List.cons.injEq] at h
     have h1 := hx a (by simp)
     have h2 := hy b (by simp)
     have : a = b := by omega
     rw [this, ih y (fun z hz => hx z (by simp [hz])) (fun z hz => hy z (by simp [hz])) h.2]
  exact inj _ _ (hk h.shaped) (hk k.shaped) q3
 have el : l1 = l2 := q1
 rw [el, er, ek]
def Good (a : Abs) (p : Nat) : Prop := ∃ m, Holds a p m /\ m.recs ≠ []
theorem Good.same {a a' : Abs} {p : Nat} (h : Good a p) (e : a'.at (p : Int) = a.at (p : Int)) : Good a' p := by
 obtain ⟨m, h1, h2⟩ := h
 exact ⟨m, ⟨e.trans h1.page, h1.shaped, h1.size, h1.small⟩, h2⟩
theorem Good.use {a : Abs} {p : Nat} (h : Good a p) : ∃ c, a.at (p : Int) = some c := by
 obtain ⟨m, h1, _⟩ := h
 exact ⟨_, h1.page⟩
theorem fit_good {a : Abs} {at_ : Nat} {n : L5.No} {c : List UInt8} (hat : a.at (at_ : Int) = some c) (hs : n.shaped = true) (hz : n.size <= 1024) (hne : n.recs ≠ []) {p : Nat} (hp : Good a p \/ p = at_ \/ (a.at (p : Int) = none /\ ∃ c, (layN a at_ n).at (p : Int) = some c)) : Good (layN a at_ n) p := by
 by_cases e : p = at_
 · subst e
   exact ⟨n, Holds.lay hat hs hz (small_of hs (by omega)), hne⟩
 · have hsm : (layN a at_ n).at (p : Int) = a.at (p : Int) := at_lay_ne e (at_pos hat) _
   rcases hp with hp | hp | ⟨hp, c', hc'⟩
   · exact hp.same hsm
   · exact absurd hp e
   · rw [hsm, hp] at hc'; cases hc'
theorem grows_good : ∀ (ups : List Pl) {a : Abs} {at_ : Nat} {n : L5.No} {c : List UInt8}, a.Ok -> ups.length + 2 <= a.left -> GrowOk ups a at_ n -> n.recs ≠ [] -> a.at (at_ : Int) = some c -> (∀ u ∈ ups, ∃ c, a.at (u.at_ : Int) = some c) -> ∀ p : Nat, (Good a p \/ p = at_ \/ (a.at (p : Int) = none /\ ∃ c, (grows ups a at_ n).1.at (p : Int) = some c)) -> Good (grows ups a at_ n).1 p := by
 intro ups
 induction ups with
 | nil =>
  intro a at_ n c ho hl hG hne hat _ p hp
  obtain ⟨hs, _, hd⟩ := hG
  by_cases hf : n.size <= 1024
  · have e : grows [] a at_ n = (layN a at_ n, none) := by rw [grows, if_pos hf]
    rw [e] at hp ⊢
    exact fit_good hat hs hf hne hp
  · obtain ⟨hc, hr1, hr2⟩ := hd.resolve_left hf
    obtain ⟨n1, n2⟩ := next_pos ho
    obtain ⟨⟨z, a1⟩, a2⟩ := at_alloc ho
    have ok1 := (ho.alloc (by omega)).1
    have hnx : a.next ≠ at_ := fun e => by rw [e, hat] at n2; cases n2
    have hat1 : a.alloc.at (at_ : Int) = some c := by rw [a2 at_ (fun e => hnx e.symm)]; exact hat
    have hnx1 : (layN a.alloc at_ (n.lo n.cut)).at (a.next : Int) = some z := by unfold layN; rw [at_lay_ne hnx (at_pos hat)]; exact a1
    have e : grows [] a at_ n = (layN (layN (layN a.alloc at_ (n.lo n.cut)) a.next (n.hi n.cut)).alloc (layN (layN a.alloc at_ (n.lo n.cut)) a.next (n.hi n.cut)).next ⟨false, [sepOf n], [(at_ : Int), (a.next : Int)]⟩, some (layN (layN a.alloc at_ (n.lo n.cut)) a.next (n.hi n.cut)).next) := by rw [grows, if_neg hf]
    rw [e] at hp ⊢
    have ok3 := layN_ok (n := n.hi n.cut) (layN_ok (n := n.lo n.cut) ok1 hat1 hc.lo.2.1) hnx1 hc.hi.2.1
    have oth : ∀ p : Nat, p ≠ at_ -> p ≠ a.next -> (layN (layN a.alloc at_ (n.lo n.cut)) a.next (n.hi n.cut)).at (p : Int) = a.at (p : Int) := fun p h1 h2 => by
     unfold layN
     rw [at_lay_ne h2 n1, at_lay_ne h1 (at_pos hat), a2 p h2]
    have gA : Good (layN (layN a.alloc at_ (n.lo n.cut)) a.next (n.hi n.cut)) at_ := ⟨n.lo n.cut, ⟨by
     show ((layN a.alloc at_ (n.lo n.cut)).lay a.next _).at (at_ : Int) = _
     rw [at_lay_ne (fun e => hnx e.symm) n1]
     exact at_lay_same hat1 _, hc.lo.1, hc.lo.2.1, hc.lo.2.2⟩, by
     have h1 := hc.pos; have h2 := hc.gap
     intro e
     have := congrArg List.length e
     simp [L5.No.lo] at this
     rcases this with h | h
     · omega
     · rw [h] at h2; simp at h2⟩
    have gB : Good (layN (layN a.alloc at_ (n.lo n.cut)) a.next (n.hi n.cut)) a.next := ⟨n.hi n.cut, ⟨at_lay_same hnx1 _, hc.hi.1, hc.hi.2.1, hc.hi.2.2⟩, by
     have h2 := hc.gap
     intro e
     have := congrArg List.length e
     simp [L5.No.hi] at this
     omega⟩
    generalize layN (layN a.alloc at_ (n.lo n.cut)) a.next (n.hi n.cut) = a1' at *
    obtain ⟨y1, y2⟩ := next_pos ok3
    obtain ⟨⟨z', b1⟩, b2⟩ := at_alloc ok3
    have oth2 : ∀ p : Nat, p ≠ a1'.next -> (layN a1'.alloc a1'.next ⟨false, [sepOf n], [(at_ : Int), (a.next : Int)]⟩).at (p : Int) = a1'.at (p : Int) := fun p hp => by
     unfold layN
     rw [at_lay_ne hp y1, b2 p hp]
    by_cases er : p = a1'.next
    · subst er
      exact ⟨_, Holds.lay b1 hr1 hr2 (small_of hr1 (by omega)), by simp⟩
    · by_cases e1 : p = at_
      · subst e1; exact gA.same (oth2 p er)
      · by_cases e2 : p = a.next
        · subst e2; exact gB.same (oth2 _ er)
        · rcases hp with hp | hp | ⟨hp, c', hc'⟩
          · exact hp.same ((oth2 p er).trans (oth p e1 e2))
          · exact absurd hp e1
          · have hc'' : (layN a1'.alloc a1'.next ⟨false, [sepOf n], [(at_ : Int), (a.next : Int)]⟩).at (p : Int) = some c' := hc'
            rw [oth2 p er, oth p e1 e2, hp] at hc''; cases hc''
 | cons u us ih =>
  intro a at_ n c ho hl hG hne hat hus p hp
  obtain ⟨hs, _, hd⟩ := hG
  by_cases hf : n.size <= 1024
  · have e : grows (u :: us) a at_ n = (layN a at_ n, none) := by rw [grows, if_pos hf]
    rw [e] at hp ⊢
    exact fit_good hat hs hf hne hp
  · obtain ⟨hc, _, _, _, hG'⟩ := hd.resolve_left hf
    obtain ⟨n1, n2⟩ := next_pos ho
    obtain ⟨⟨z, a1⟩, a2⟩ := at_alloc ho
    have ok1 := (ho.alloc (by omega)).1
    have hnx : a.next ≠ at_ := fun e => by rw [e, hat] at n2; cases n2
    have hat1 : a.alloc.at (at_ : Int) = some c := by rw [a2 at_ (fun e => hnx e.symm)]; exact hat
    have hnx1 : (layN a.alloc at_ (n.lo n.cut)).at (a.next : Int) = some z := by unfold layN; rw [at_lay_ne hnx (at_pos hat)]; exact a1
    have e : grows (u :: us) a at_ n = grows us (layN (layN a.alloc at_ (n.lo n.cut)) a.next (n.hi n.cut)) u.at_ (addK u (sepOf n) a.next) := by rw [grows, if_neg hf]
    rw [e] at hp ⊢
    have ok3 := layN_ok (n := n.hi n.cut) (layN_ok (n := n.lo n.cut) ok1 hat1 hc.lo.2.1) hnx1 hc.hi.2.1
    have hlf : (layN (layN a.alloc at_ (n.lo n.cut)) a.next (n.hi n.cut)).left = a.left - 1 := by rw [(layN_used _ _ _).2.2, (layN_used _ _ _).2.2, left_alloc ho]
    have oth : ∀ p : Nat, p ≠ at_ -> p ≠ a.next -> (layN (layN a.alloc at_ (n.lo n.cut)) a.next (n.hi n.cut)).at (p : Int) = a.at (p : Int) := fun p h1 h2 => by
     unfold layN
     rw [at_lay_ne h2 n1, at_lay_ne h1 (at_pos hat), a2 p h2]
    have gA : Good (layN (layN a.alloc at_ (n.lo n.cut)) a.next (n.hi n.cut)) at_ := ⟨n.lo n.cut, ⟨by
     show ((layN a.alloc at_ (n.lo n.cut)).lay a.next _).at (at_ : Int) = _
     rw [at_lay_ne (fun e => hnx e.symm) n1]
     exact at_lay_same hat1 _, hc.lo.1, hc.lo.2.1, hc.lo.2.2⟩, by
     have h1 := hc.pos; have h2 := hc.gap
     intro e
     have := congrArg List.length e
     simp [L5.No.lo] at this
     rcases this with h | h
     · omega
     · rw [h] at h2; simp at h2⟩
    have gB : Good (layN (layN a.alloc at_ (n.lo n.cut)) a.next (n.hi n.cut)) a.next := ⟨n.hi n.cut, ⟨at_lay_same hnx1 _, hc.hi.1, hc.hi.2.1, hc.hi.2.2⟩, by
     have h2 := hc.gap
     intro e
     have := congrArg List.length e
     simp [L5.No.hi] at this
     omega⟩
    generalize layN (layN a.alloc at_ (n.lo n.cut)) a.next (n.hi n.cut) = a1' at *
    have use1 : ∀ q : Nat, (∃ c, a.at (q : Int) = some c) -> ∃ c, a1'.at (q : Int) = some c := fun q ⟨c', hq⟩ => by
     by_cases e1 : q = at_
     · subst e1; exact gA.use
     · have e2 : q ≠ a.next := fun e => by rw [e, n2] at hq; cases hq
       exact ⟨c', by rw [oth q e1 e2]; exact hq⟩
    obtain ⟨cu, hcu⟩ := use1 u.at_ (hus u (by simp))
    refine ih ok3 (by simp at hl; omega) hG' (by simp [addK]) hcu (fun v hv => use1 v.at_ (hus v (by simp [hv]))) p ?_
    by_cases e1 : p = at_
    · subst e1; exact Or.inl gA
    · by_cases e2 : p = a.next
      · subst e2; exact Or.inl gB
      · rcases hp with hp | hp | ⟨hp, hc'⟩
        · exact Or.inl (hp.same (oth p e1 e2))
        · exact absurd hp e1
        · exact Or.inr (Or.inr ⟨by rw [oth p e1 e2]; exact hp, hc'⟩)
def Fat (a : Abs) (es : List ByteArray) (ps : List Nat) : Prop := (es = [] /\ ps.length = 1) \/ ∀ p ∈ ps, Good a p
def upB (hi hi' : ByteArray) : Prop := hi'.size = 0 \/ (hi.size ≠ 0 /\ leP hi hi')
theorem upB.rf (hi : ByteArray) : upB hi hi := by
 by_cases h : hi.size = 0
 · exact Or.inl h
 · exact Or.inr ⟨h, le_rf _⟩
theorem inB.wide {lo hi lo' hi' k : ByteArray} (h : inB lo hi k) (h1 : leP lo' lo) (h2 : upB hi hi') : inB lo' hi' k := h.sub h1 h2
theorem Subs.wide {P : Nat -> ByteArray -> ByteArray -> List ByteArray -> List Nat -> Prop} (hP : ∀ c lo hi lo' hi' es ps, P c lo hi es ps -> leP lo' lo -> upB hi hi' -> P c lo' hi' es ps) {hi lo : ByteArray} {rs es : List ByteArray} {cs : List Int} {ps : List Nat} (k : Subs P hi lo rs cs es ps) : ∀ {lo' hi' : ByteArray}, leP lo' lo -> upB hi hi' -> Subs P hi' lo' rs cs es ps := by
 induction k with
 | one h => intro lo' hi' h1 h2; exact .one (hP _ _ _ _ _ _ _ h h1 h2)
 | more h t ih => intro lo' hi' h1 h2; exact .more (hP _ _ _ _ _ _ _ h h1 (upB.rf _)) (ih (le_rf _) h2)
theorem Sub.wide {a : Abs} : ∀ {h at_ : Nat} {lo hi : ByteArray} {es : List ByteArray} {ps : List Nat}, Sub a h at_ lo hi es ps -> ∀ {lo' hi' : ByteArray}, leP lo' lo -> upB hi hi' -> Sub a h at_ lo' hi' es ps := by
 intro h
 induction h with
 | zero => intro _ _ _ _ _ k; exact k.elim
 | succ h ih =>
  intro at_ lo hi es ps k lo' hi' h1 h2
  obtain ⟨n, ps', hn, rfl, hb, hc⟩ := k
  exact ⟨n, ps', hn, rfl, fun r hr => (hb r hr).wide h1 h2, hc.imp id fun ⟨c1, c2, c3⟩ => ⟨c1, c2, Subs.wide (P := Sub a h) (fun c lo hi lo' hi' es ps (hs : Sub a h c lo hi es ps) q1 q2 => ih hs q1 q2) c3 h1 h2⟩⟩
theorem SubL.last {P : Nat -> ByteArray -> ByteArray -> List ByteArray -> List Nat -> Prop} {lo' lo : ByteArray} {rl es : List ByteArray} {kl : List Int} {ps : List Nat} (k : SubL P lo' lo rl kl es ps) : kl ≠ [] -> ∃ (rl' : List ByteArray) (kl' : List Int) (c : Nat) (lo2 : ByteArray) (es1 es2 : List ByteArray) (ps1 ps2 : List Nat), rl = rl' ++ [lo'] /\ kl = kl' ++ [(c : Int)] /\ SubL P lo2 lo rl' kl' es1 ps1 /\ P c lo2 lo' es2 ps2 /\ es = es1 ++ es2 /\ ps = ps1 ++ ps2 := by
 induction k with
 | nil => intro h; exact absurd rfl h
 | @cons lo r c es1 es2 rs cs ps1 ps2 h t ih =>
  intro _
  by_cases hc : cs = []
  · subst hc
    cases t
    exact ⟨[], [], c, lo, [], es1, [], ps1, rfl, rfl, .nil, h, by simp, by simp⟩
  · obtain ⟨rl', kl', c', lo2, f1, f2, p1, p2, e1, e2, e3, e4, e5, e6⟩ := ih hc
    exact ⟨r :: rl', (c : Int) :: kl', c', lo2, es1 ++ f1, f2, ps1 ++ p1, p2, by rw [e1]; rfl, by rw [e2]; rfl, .cons h e3, e4, by rw [e5]; simp, by rw [e6]; simp⟩
theorem SubL.len {P : Nat -> ByteArray -> ByteArray -> List ByteArray -> List Nat -> Prop} {lo' lo : ByteArray} {rl es : List ByteArray} {kl : List Int} {ps : List Nat} (k : SubL P lo' lo rl kl es ps) : kl.length = rl.length := by
 induction k with
 | nil => rfl
 | cons _ _ ih => simp [ih]
theorem Subs.len {P : Nat -> ByteArray -> ByteArray -> List ByteArray -> List Nat -> Prop} {hi lo : ByteArray} {rs es : List ByteArray} {cs : List Int} {ps : List Nat} (k : Subs P hi lo rs cs es ps) : cs.length = rs.length + 1 := by
 induction k with
 | one _ => rfl
 | more _ _ ih => simp [ih]
theorem SubL.le {P : Nat -> ByteArray -> ByteArray -> List ByteArray -> List Nat -> Prop} {lo' lo hi : ByteArray} {rl es : List ByteArray} {kl : List Int} {ps : List Nat} (k : SubL P lo' lo rl kl es ps) (hb : ∀ r ∈ rl, inB lo hi r) : leP lo lo' := by
 rcases k.low with ⟨e, _⟩ | e
 · rw [e]; exact le_rf _
 · exact (hb lo' (List.mem_of_getLast? e)).1
theorem weigh_sublist {x y : List ByteArray} (h : x.Sublist y) : L5.weigh x <= L5.weigh y := by
 induction h with
 | slnil => exact Nat.le_refl _
 | @cons x y z _ ih => simp [L5.weigh] at ih ⊢; omega
 | @cons_cons x y z _ ih => simp [L5.weigh] at ih ⊢; omega
theorem shaped_less {n m : L5.No} (hs : n.shaped = true) (hl : n.leaf = false) (hz : n.size <= 1024) (ml : m.leaf = false) (hr : m.recs.Sublist n.recs) (hk : m.kids.Sublist n.kids) (hlen : m.kids.length = m.recs.length + 1) : m.shaped = true /\ m.size <= 1024 := by
 obtain ⟨r1, r2⟩ := shaped_recs hs
 obtain ⟨k1, _⟩ := shaped_kids hs hl
 refine ⟨shaped_mk (fun s h => r1 s (hr.subset h)) (r2.sublist hr) (Or.inr ⟨ml, hlen, fun k h => k1 k (hk.subset h)⟩), ?_⟩
 have h1 := weigh_sublist hr
 have h2 := hk.length_le
 unfold L5.No.size at hz ⊢
 omega
def joinK (m : L5.No) (sep : ByteArray) (n : L5.No) : L5.No := if m.leaf then ⟨true, m.recs ++ n.recs, []⟩ else ⟨false, m.recs ++ [sep] ++ n.recs, m.kids ++ n.kids⟩
def Lush (a : Abs) (p : Nat) : Prop := ∀ n, Holds a p n -> n.leaf = true -> n.recs ≠ []
theorem Lush.same {a a' : Abs} {p : Nat} (h : Lush a p) (e : a'.at (p : Int) = a.at (p : Int)) : Lush a' p := fun n hn hl => h n ⟨e.symm.trans hn.page, hn.shaped, hn.size, hn.small⟩ hl
theorem Sub.some_ {a : Abs} : ∀ {h at_ : Nat} {lo hi : ByteArray} {es : List ByteArray} {ps : List Nat}, Sub a h at_ lo hi es ps -> (∀ p ∈ ps, Lush a p) -> es ≠ [] := by
 intro h
 induction h with
 | zero => intro _ _ _ _ _ k; exact k.elim
 | succ h ih =>
  intro at_ lo hi es ps k hp
  obtain ⟨n, ps', hn, rfl, hb, hc⟩ := k
  rcases hc with ⟨_, hl, rfl, _⟩ | ⟨_, _, hs⟩
  · exact hp at_ (by simp) n hn hl
  · generalize n.recs = rs at hs
    generalize n.kids = cs at hs
    cases hs with
    | one hP => exact ih hP fun p h => hp p (by simp [h])
    | more hP _ => intro e; exact ih hP (fun p h => hp p (by simp [h])) (List.append_eq_nil_iff.1 e).1
theorem body_above {a : Abs} {h : Nat} {n : L5.No} {lo hi : ByteArray} {es : List ByteArray} {ps : List Nat} (hb : Body (Sub a h) h n lo hi es ps) (hs : n.shaped = true) (hl : n.leaf = false) (hp : ∀ p ∈ ps, Lush a p) : ∀ r ∈ n.recs, ltP lo r := by
 obtain ⟨r1, r2⟩ := shaped_recs hs
 rcases hb.2 with ⟨_, h1, _⟩ | ⟨_, _, hsu⟩
 · rw [hl] at h1; cases h1
 · generalize n.recs = rs at hsu r1 r2
   generalize n.kids = cs at hsu
   cases hsu with
   | one _ => intro r hr; cases hr
   | @more _ r0 c es1 es2 rs cs ps1 ps2 hP _ =>
    have hne := hP.some_ fun p h => hp p (by simp [h])
    have h0 : ltP lo r0 := by
     cases es1 with
     | nil => exact absurd rfl hne
     | cons e l =>
      have hb := hP.bounds e (by simp)
      exact le_lt hb.1 (hb.2.resolve_left (by have := (r1 r0 (by simp)).1; omega))
    intro r hr
    rcases List.mem_cons.1 hr with rfl | hr
    · exact h0
    · exact lt_tr h0 ((List.pairwise_cons.1 r2).1 r hr)
theorem subs_join {P : Nat -> ByteArray -> ByteArray -> List ByteArray -> List Nat -> Prop} {hi lo sep : ByteArray} {rs1 rs2 es1 es2 : List ByteArray} {cs1 cs2 : List Int} {ps1 ps2 : List Nat} (k : Subs P sep lo rs1 cs1 es1 ps1) (t : Subs P hi sep rs2 cs2 es2 ps2) : Subs P hi lo (rs1 ++ [sep] ++ rs2) (cs1 ++ cs2) (es1 ++ es2) (ps1 ++ ps2) := by
 induction k with
 | one h => exact .more h t
 | more h _ ih => simpa using Subs.more h ih
theorem join_law {a : Abs} {h : Nat} {m n : L5.No} {lo sep hi : ByteArray} {es1 es2 : List ByteArray} {ps1 ps2 : List Nat} (hm : Body (Sub a h) h m lo sep es1 ps1) (hn : Body (Sub a h) h n sep hi es2 ps2) (sm : m.shaped = true) (sn : n.shaped = true) (hsz : 1 <= sep.size /\ sep.size <= 400) (hin : inB lo hi sep) (hlu : ∀ p ∈ ps2, Lush a p) :
 Body (Sub a h) h (joinK m sep n) lo hi (es1 ++ es2) (ps1 ++ ps2) /\ (joinK m sep n).shaped = true := by
 obtain ⟨q1, q2⟩ := shaped_recs sm
 obtain ⟨r1, r2⟩ := shaped_recs sn
 have up1 : upB sep hi := by
  rcases hin.2 with e | e
  · exact Or.inl e
  · exact Or.inr ⟨by omega, le_of e⟩
 have hz0 : sep.size ≠ 0 := by omega
 have mlt : ∀ r ∈ m.recs, ltP r sep := fun r hr => (hm.1 r hr).2.resolve_left hz0
 have bm : ∀ r ∈ m.recs, inB lo hi r := fun r hr => (hm.1 r hr).wide (le_rf _) up1
 have bn : ∀ r ∈ n.recs, inB lo hi r := fun r hr => (hn.1 r hr).wide hin.1 (upB.rf _)
 cases hl : m.leaf with
 | true =>
  have h0 : h = 0 := by
   rcases hm.2 with ⟨h0, _⟩ | ⟨_, e, _⟩
   · exact h0
   · rw [hl] at e; cases e
  have en : n.leaf = true /\ es2 = n.recs /\ ps2 = [] := by
   rcases hn.2 with ⟨_, e1, e2, e3⟩ | ⟨e, _⟩
   · exact ⟨e1, e2, e3⟩
   · exact absurd h0 e
  have em : es1 = m.recs /\ ps1 = [] := by
   rcases hm.2 with ⟨_, _, e2, e3⟩ | ⟨e, _⟩
   · exact ⟨e2, e3⟩
   · exact absurd h0 e
  have eJ : joinK m sep n = ⟨true, m.recs ++ n.recs, []⟩ := by unfold joinK; rw [hl]; rfl
  rw [eJ, en.2.1, en.2.2, em.1, em.2]
  refine ⟨⟨fun r hr => ?_, Or.inl ⟨h0, rfl, rfl, rfl⟩⟩, shaped_mk (fun s hs => ?_) ?_ (Or.inl ⟨rfl, rfl⟩)⟩
  · rcases List.mem_append.1 hr with hr | hr
    · exact bm r hr
    · exact bn r hr
  · rcases List.mem_append.1 hs with hs | hs
    · exact q1 s hs
    · exact r1 s hs
  · rw [List.pairwise_append]
    exact ⟨q2, r2, fun x hx y hy => lt_le (mlt x hx) (hn.1 y hy).1⟩
 | false =>
  have hh : h ≠ 0 /\ Subs (Sub a h) sep lo m.recs m.kids es1 ps1 := by
   rcases hm.2 with ⟨_, e, _⟩ | ⟨e1, _, e3⟩
   · rw [hl] at e; cases e
   · exact ⟨e1, e3⟩
  have hn2 : n.leaf = false /\ Subs (Sub a h) hi sep n.recs n.kids es2 ps2 := by
   rcases hn.2 with ⟨e, _⟩ | ⟨_, e2, e3⟩
   · exact absurd e hh.1
   · exact ⟨e2, e3⟩
  have nab := body_above hn sn hn2.1 hlu
  have eJ : joinK m sep n = ⟨false, m.recs ++ [sep] ++ n.recs, m.kids ++ n.kids⟩ := by unfold joinK; rw [hl]; rfl
  obtain ⟨g1, _⟩ := shaped_kids sm hl
  obtain ⟨g2, _⟩ := shaped_kids sn hn2.1
  rw [eJ]
  refine ⟨⟨fun r hr => ?_, Or.inr ⟨hh.1, rfl, subs_join hh.2 hn2.2⟩⟩, shaped_mk (fun s hs => ?_) ?_ (Or.inr ⟨rfl, ?_, fun k hk => ?_⟩)⟩
  · simp only [List.mem_append, List.mem_singleton] at hr
    rcases hr with (hr | hr) | hr
    · exact bm r hr
    · rw [hr]; exact hin
    · exact bn r hr
  · simp only [List.mem_append, List.mem_singleton] at hs
    rcases hs with (hs | hs) | hs
    · exact q1 s hs
    · rw [hs]; exact hsz
    · exact r1 s hs
  · rw [List.append_assoc, List.singleton_append, List.pairwise_append, List.pairwise_cons]
    refine ⟨q2, ⟨nab, r2⟩, fun x hx y hy => ?_⟩
    rcases List.mem_cons.1 hy with rfl | hy
    · exact mlt x hx
    · exact lt_tr (mlt x hx) (nab y hy)
  · have := hh.2.len
    have := hn2.2.len
    simp
    omega
  · rcases List.mem_append.1 hk with hk | hk
    · exact g1 k hk
    · exact g2 k hk
end Go.Proofs.YtiohkehcpkfleaaGreat
namespace Go.Proofs.YtiohkehcpkfleaaGreat
open Go.RowKit
open L4 (Ar ArP Abs arV nv)
def cutK (n : L5.No) (i kid : Nat) : L5.No := ⟨n.leaf, if n.recs.length = 0 then [] else n.recs.take i ++ n.recs.drop (i + 1), n.kids.take kid ++ n.kids.drop (kid + 1)⟩
structure Cutted (N g : Nat) (cs : Array Value) (off : Nat) (n : L5.No) (i kid : Nat) (vr vk : Value) (w : World) (vr' vk' : Value) (w' : World) : Prop where
 blk : w'.heap[g]? = some (.cells ((cs.setIfInBounds (off + 2) vr').setIfInBounds (off + 3) vk') 99 (0, 0))
 rr : w'.ownsRow N 9 1 vr' (cutK n i kid).recs.length (L5.svs (cutK n i kid).recs)
 rk : w'.ownsRow N 3 1 vk' (cutK n i kid).kids.length (L5.ivs (cutK n i kid).kids)
 only : Only (fun k => k = g \/ vr.ownBlock = some k \/ vk.ownBlock = some k) w w'
 nr : vr'.ownBlock = vr.ownBlock
 nk : vk'.ownBlock = vk.ownBlock
structure MidC (N g : Nat) (cs : Array Value) (off : Nat) (n : L5.No) (i : Nat) (vr vk : Value) (w : World) (vr' : Value) (w' : World) : Prop where
 blk : w'.heap[g]? = some (.cells (cs.setIfInBounds (off + 2) vr') 99 (0, 0))
 rr : w'.ownsRow N 9 1 vr' (cutK n i 0).recs.length (L5.svs (cutK n i 0).recs)
 rk : w'.ownsRow N 3 1 vk n.kids.length (L5.ivs n.kids)
 only : Only (fun k => k = g \/ vr.ownBlock = some k \/ vk.ownBlock = some k) w w'
 nr : vr'.ownBlock = vr.ownBlock
theorem midC {N g : Nat} {cs : Array Value} {off i : Nat} {n : L5.No} {vr vk : Value} {w w2 : World} {vr' : Value} {l : List ByteArray} {m : Nat} (hb : w.heap[g]? = some (.cells cs 99 (0, 0))) (yr : w.ownsRow N 9 1 vr n.recs.length (L5.svs n.recs)) (yk : w.ownsRow N 3 1 vk n.kids.length (L5.ivs n.kids)) (o2 : w2.ownsRow N 9 1 vr' m (L5.svs l)) (hm : m = (cutK n i 0).recs.length) (hl : l = (cutK n i 0).recs) (hg : w.grownBy w2 vr.ownBlock) (hn : vr'.ownBlock = vr.ownBlock) : MidC N g cs off n i vr vk w vr' (w2.setCell ⟨g, off + 1 + 1, none⟩ vr') := by
 subst hm
 subst hl
 have gl := (Array.getElem?_eq_some_iff.1 hb).1
 have hb2 : w2.heap[g]? = some (.cells cs 99 (0, 0)) := (hg.block g gl (fun e => row_ne hb yr (by decide) e.symm)).trans hb
 refine ⟨heap_setCell_same w2 g (off + 2) cs _ _ hb2, ownsRow_setCell_other o2 (a := ⟨g, off + 1 + 1, none⟩) (row_ne hb2 o2 (by decide)) vr', ?_, ?_, hn⟩
 · refine L5.owns_of_block yk fun q hq => ?_
   have z := (yk.lt q hq).2
   have hqg : q ≠ g := fun e => row_ne hb yk (by decide) (e ▸ hq)
   rw [heap_setCell_other _ _ _ _ hqg, hg.block q z (fun e => rows_ne yk yr (by decide) q hq e.symm)]
 · exact ⟨hg.os, hg.tape, hg.output, by have := hg.size; simpa [World.setCell] using this, fun q hq hz => by
    rw [heap_setCell_other _ _ _ _ (fun e => hz (Or.inl e)), hg.block q hq (fun e => hz (Or.inr (Or.inl e.symm)))]⟩
theorem MidC.fin {N g : Nat} {cs : Array Value} {off i kid : Nat} {n : L5.No} {vr vk : Value} {w w3 w5 : World} {vr' vk' : Value} {l : List Int} {m : Nat} (k : MidC N g cs off n i vr vk w vr' w3) (o5 : w5.ownsRow N 3 1 vk' m (L5.ivs l)) (hm : m = (cutK n i kid).kids.length) (hl : l = (cutK n i kid).kids) (hg : w3.grownBy w5 vk.ownBlock) (hn : vk'.ownBlock = vk.ownBlock) : Cutted N g cs off n i kid vr vk w vr' vk' (w5.setCell ⟨g, off + 1 + 2, none⟩ vk') := by
 subst hm
 subst hl
 have gl := (Array.getElem?_eq_some_iff.1 k.blk).1
 have hb5 := (hg.block g gl (fun e => row_ne k.blk k.rk (by decide) e.symm)).trans k.blk
 have z3 := k.only.size
 refine ⟨heap_setCell_same w5 g (off + 3) _ _ _ hb5, ?_, ownsRow_setCell_other o5 (a := ⟨g, off + 1 + 2, none⟩) (row_ne hb5 o5 (by decide)) vk', ?_, k.nr, hn⟩
 · refine L5.owns_of_block (show w3.ownsRow N 9 1 vr' (cutK n i kid).recs.length (L5.svs (cutK n i kid).recs) from k.rr) fun q hq => ?_
   have z := (k.rr.lt q hq).2
   have hqg : q ≠ g := fun e => row_ne k.blk k.rr (by decide) (e ▸ hq)
   rw [heap_setCell_other _ _ _ _ hqg, hg.block q z (fun e => rows_ne k.rr k.rk (by decide) q hq e.symm)]
 · exact ⟨hg.os.trans k.only.os, hg.tape.trans k.only.tape, hg.output.trans k.only.output, by have := hg.size; simp [World.setCell]; omega, fun q hq hz => by
    rw [heap_setCell_other _ _ _ _ (fun e => hz (Or.inl e)), hg.block q (by omega) (fun e => hz (Or.inr (Or.inr e.symm)))]
    exact k.only.block q hq hz⟩
theorem cut_ok {N g off i kid : Nat} {n : L5.No} {cs : Array Value} {vr vk : Value} {w : World} (hb : w.heap[g]? = some (.cells cs 99 (0, 0))) (c2 : cs[off + 2]? = some vr) (c3 : cs[off + 3]? = some vk) (yr : w.ownsRow N 9 1 vr n.recs.length (L5.svs n.recs)) (yk : w.ownsRow N 3 1 vk n.kids.length (L5.ivs n.kids)) (h1 : n.recs.length ≠ 0 -> i < n.recs.length) (h2 : kid < n.kids.length) (hs : n.small) :
 Calls Tryz.prog 101 #[.pointer (some ⟨g, off, none⟩), .int .i64 (i : Int), .int .i64 (kid : Int)] w fun e w' => e = .returned (.tuple #[]) /\ ∃ vr' vk', Cutted N g cs off n i kid vr vk w vr' vk' w' := by
 obtain ⟨ra, rc, rfl⟩ := own_slice yr
 obtain ⟨ka, kc, rfl⟩ := own_slice yk
 have HR := thid yr
 have HK := thid yk
 have HBK := thid hb
 have gl := (Array.getElem?_eq_some_iff.1 hb).1
 have q2 : w.cell? ⟨g, off + 2, none⟩ = some (.slice ra n.recs.length rc) := (cell_of_row _ _ _ _ _ _ hb).trans c2
 have q3 : w.cell? ⟨g, off + 3, none⟩ = some (.slice ka n.kids.length kc) := (cell_of_row _ _ _ _ _ _ hb).trans c3
 have qf : ∀ i, w.frozen? ⟨g, i, none⟩ = false := fun i => frozen_of_row _ _ _ _ _ hb
 have hkw : IntKind.i64.wrap ((kid : Int) + 1) = ((kid + 1 : Nat) : Int) := by have := hs.kids; rw [IntKind.wrap_i64]; omega
 have HST : Hid (∀ (vr' : Value) (W3 : World), MidC N g cs off n i (.slice ra n.recs.length rc) (.slice ka n.kids.length kc) w vr' W3 -> W3.cell? ⟨g, off + 3, none⟩ = some (.slice ka n.kids.length kc) /\ (∀ i, W3.frozen? ⟨g, i, none⟩ = false) /\ g < W3.heap.size /\ Calls Tryz.prog 124 #[.slice ka n.kids.length kc, .int .i64 (kid : Int), .int .i64 ((kid + 1 : Nat) : Int)] W3 fun e w' => ∃ v', e = .returned v' /\ Cutted N g cs off n i kid (.slice ra n.recs.length rc) (.slice ka n.kids.length kc) w vr' v' (w'.setCell ⟨g, off + 1 + 2, none⟩ v') /\ w'.heap[g]? = some (.cells (cs.setIfInBounds (off + 2) vr') 99 (0, 0)) /\ ∃ a2 c2, v' = .slice a2 (n.kids.length - 1) c2) := fun vr' W3 h3 => by
  refine ⟨by rw [cell_of_row _ _ _ _ _ _ h3.blk, Array.getElem?_setIfInBounds_ne (by omega)]; exact c3, fun i => frozen_of_row _ _ _ _ _ h3.blk, (Array.getElem?_eq_some_iff.1 h3.blk).1, ?_⟩
  refine (delete_int (l := n.kids) h3.rk h2).mono ?_
  rintro e w5 ⟨v5, rfl, o5, hg5, hn5⟩
  refine ⟨v5, rfl, h3.fin (l := n.kids.take kid ++ n.kids.drop (kid + 1)) o5 (by simp [cutK]; omega) rfl hg5 hn5, (hg5.block g (Array.getElem?_eq_some_iff.1 h3.blk).1 (fun e => row_ne h3.blk h3.rk (by decide) e.symm)).trans h3.blk, own_slice o5⟩
 go_enter Tryz.func101, Tryz.ntmps101
 rcases Nat.eq_zero_or_pos n.recs.length with hz | hz
 · have hz' : ¬ ((0 : Int) < (n.recs.length : Int)) := by omega
   have hcr : (cutK n i 0).recs = n.recs := by
    show (if n.recs.length = 0 then [] else n.recs.take i ++ n.recs.drop (i + 1)) = _
    rw [if_pos hz]
    exact (List.length_eq_zero_iff.1 hz).symm
   have hcs : cs.setIfInBounds (off + 2) (.slice ra n.recs.length rc) = cs := by
    apply Array.ext_getElem?
    intro j
    rw [Array.getElem?_setIfInBounds]
    split
    · rename_i e
      subst e
      split
      · exact c2.symm
      · rename_i e
        rw [Array.getElem?_eq_none (by omega)] at c2
        cases c2
    · rfl
   have H3 : Hid (MidC N g cs off n i (.slice ra n.recs.length rc) (.slice ka n.kids.length kc) w (.slice ra n.recs.length rc) w) := ⟨by rw [hcs]; exact hb, by rw [hcr]; exact yr, yk, Only.refl _ _, rfl⟩
   obtain ⟨s1, s2, s3, s4⟩ := HST.out _ _ H3.out
   have HDI := thid s4
   clear yr yk hb HST s4
   go_wp2_with fail
   rw [show (kid : Int) + 1 = ((kid + 1 : Nat) : Int) by omega]
   refine HDI.out.mono ?_
   rintro e w5 ⟨v5, rfl, hC, hb5, a5, c5, rfl⟩
   have HC := thid hC
   have p3 : w5.cell? ⟨g, off + 3, none⟩ = some (.slice ka n.kids.length kc) := by rw [cell_of_row _ _ _ _ _ _ hb5, Array.getElem?_setIfInBounds_ne (by omega)]; exact c3
   have pf5 : ∀ i, w5.frozen? ⟨g, i, none⟩ = false := fun i => frozen_of_row _ _ _ _ _ hb5
   have pl5 := (Array.getElem?_eq_some_iff.1 hb5).1
   clear hC hb5 HDI s1 s2 s3
   go_wp2
   go_end0
   exact ⟨rfl, _, _, HC.out⟩
 · have hz' : (0 : Int) < (n.recs.length : Int) := by omega
   have hiw : IntKind.i64.wrap ((i : Int) + 1) = ((i + 1 : Nat) : Int) := by have := hs.recs; have := h1 (by omega); rw [IntKind.wrap_i64]; omega
   have HDS := thid (delete_str (l := n.recs) yr (h1 (by omega)))
   clear yr yk hb
   go_wp2_with fail
   refine HDS.out.mono ?_
   rintro e w2 ⟨v2, rfl, o2, hg2, hn2⟩
   obtain ⟨a2, cc2, rfl⟩ := own_slice o2
   have hb2 : w2.heap[g]? = some (.cells cs 99 (0, 0)) := (hg2.block g gl (fun e => row_ne HBK.out HR.out (by decide) e.symm)).trans HBK.out
   have p2 : w2.cell? ⟨g, off + 2, none⟩ = some (.slice ra n.recs.length rc) := (cell_of_row _ _ _ _ _ _ hb2).trans c2
   have pf : ∀ i, w2.frozen? ⟨g, i, none⟩ = false := fun i => frozen_of_row _ _ _ _ _ hb2
   have pl := (Array.getElem?_eq_some_iff.1 hb2).1
   have hcr : (cutK n i 0).recs = n.recs.take i ++ n.recs.drop (i + 1) := by
    show (if n.recs.length = 0 then [] else n.recs.take i ++ n.recs.drop (i + 1)) = _
    rw [if_neg (by omega)]
   have H3 := thid (midC (off := off) (i := i) (l := n.recs.take i ++ n.recs.drop (i + 1)) HBK.out HR.out HK.out o2 (by rw [hcr]; have := h1 (by omega); simp; omega) hcr.symm hg2 hn2)
   obtain ⟨s1, s2, s3, s4⟩ := HST.out _ _ H3.out
   have HDI := thid s4
   clear o2 hg2 hn2 hb2 HDS q2 q3 qf HST s4
   go_wp2_with fail
   rw [show (kid : Int) + 1 = ((kid + 1 : Nat) : Int) by omega]
   refine HDI.out.mono ?_
   rintro e w5 ⟨v5, rfl, hC, hb5, a5, c5, rfl⟩
   have HC := thid hC
   have p3 : w5.cell? ⟨g, off + 3, none⟩ = some (.slice ka n.kids.length kc) := by rw [cell_of_row _ _ _ _ _ _ hb5, Array.getElem?_setIfInBounds_ne (by omega)]; exact c3
   have pf5 : ∀ i, w5.frozen? ⟨g, i, none⟩ = false := fun i => frozen_of_row _ _ _ _ _ hb5
   have pl5 := (Array.getElem?_eq_some_iff.1 hb5).1
   clear hC hb5 HDI s1 s2 s3
   go_wp2
   go_end0
   exact ⟨rfl, _, _, HC.out⟩
end Go.Proofs.YtiohkehcpkfleaaGreat
namespace Go.Proofs.YtiohkehcpkfleaaGreat
open Go.RowKit
open L4 (Abs)
open L5 (ltP ltB leB)
def NodeE (a : Abs) (h : Nat) (n : L5.No) (lo hi : ByteArray) (es : List ByteArray) (ps : List Nat) : Prop :=
 (Body (Sub a h) h n lo hi es ps /\ n.shaped = true /\ n.size <= 1024 /\ ∀ p ∈ ps, Lush a p) \/ (n.recs = [] /\ n.kids = [] /\ n.leaf = false /\ h ≠ 0 /\ es = [] /\ ps = [])
def NoFit (a : Abs) (u : Pl) (n : L5.No) : Prop :=
 (∀ (c : Nat) (m : L5.No) (sep : ByteArray), 1 <= u.kid -> u.n.recs[u.kid - 1]? = some sep -> u.n.kids[u.kid - 1]? = some (c : Int) -> Holds a c m -> 1024 < (joinK m sep n).size) /\
 ∀ (c : Nat) (m : L5.No) (sep : ByteArray), u.n.recs[u.kid]? = some sep -> u.n.kids[u.kid + 1]? = some (c : Int) -> Holds a c m -> 1024 < (joinK n sep m).size
inductive Shr (a : Abs) : List Pl -> Nat -> L5.No -> List (Nat × L5.No) -> List Nat -> Option (Nat × L5.No) -> Prop
 | root {at_ : Nat} {n : L5.No} : Shr a [] at_ n [] [] (some (at_, n))
 | stay {u : Pl} {us : List Pl} {at_ : Nat} {n : L5.No} (h0 : n.recs.length + n.kids.length ≠ 0) (hf : NoFit a u n) : Shr a (u :: us) at_ n [(at_, n)] [] none
 | gone {u : Pl} {us : List Pl} {at_ : Nat} {n : L5.No} {L : List (Nat × L5.No)} {G : List Nat} {o : Option (Nat × L5.No)} (h0 : n.recs.length + n.kids.length = 0) (t : Shr a us u.at_ (cutK u.n (u.kid - 1) u.kid) L G o) : Shr a (u :: us) at_ n L (at_ :: G) o
 | left {u : Pl} {us : List Pl} {at_ : Nat} {n : L5.No} {L : List (Nat × L5.No)} {G : List Nat} {o : Option (Nat × L5.No)} {c : Nat} {m : L5.No} {sep : ByteArray} (h0 : n.recs.length + n.kids.length ≠ 0) (hk : 1 <= u.kid) (hs : u.n.recs[u.kid - 1]? = some sep) (hc : u.n.kids[u.kid - 1]? = some (c : Int)) (hm : Holds a c m) (hz : (joinK m sep n).size <= 1024) (t : Shr a us u.at_ (cutK u.n (u.kid - 1) u.kid) L G o) : Shr a (u :: us) at_ n ((c, joinK m sep n) :: L) (at_ :: G) o
 | right {u : Pl} {us : List Pl} {at_ : Nat} {n : L5.No} {L : List (Nat × L5.No)} {G : List Nat} {o : Option (Nat × L5.No)} {c : Nat} {m : L5.No} {sep : ByteArray} (h0 : n.recs.length + n.kids.length ≠ 0) (hs : u.n.recs[u.kid]? = some sep) (hc : u.n.kids[u.kid + 1]? = some (c : Int)) (hm : Holds a c m) (hz : (joinK n sep m).size <= 1024) (t : Shr a us u.at_ (cutK u.n u.kid (u.kid + 1)) L G o) : Shr a (u :: us) at_ n ((at_, joinK n sep m) :: L) (c :: G) o
def laidL (a : Abs) (L : List (Nat × L5.No)) : Abs := L.foldl (fun a y => layN a y.1 y.2) a
def ShrR (a : Abs) (L : List (Nat × L5.No)) (G : List Nat) (H R : Nat) (es : List ByteArray) (old : List Nat) : Option (Nat × L5.No) -> Prop
 | none => ∃ ps', Sub (laidL a L) H R e0 e0 es ps' /\ old.Perm (ps' ++ G) /\ ∀ p ∈ ps', Lush (laidL a L) p
 | some (r, n) => ∃ h' ps', H = h' + 1 /\ r = R /\ NodeE (laidL a L) h' n e0 e0 es ps' /\ old.Perm (R :: (ps' ++ G))
theorem parent_of {a : Abs} {h : Nat} {n m : L5.No} {lo hi : ByteArray} {es : List ByteArray} {ps : List Nat} (hs : n.shaped = true) (hl : n.leaf = false) (hz : n.size <= 1024) (hb : ∀ r ∈ n.recs, inB lo hi r) (hh : h ≠ 0) (ml : m.leaf = false) (hr : m.recs.Sublist n.recs) (hk : m.kids.Sublist n.kids) (hsu : Subs (Sub a h) hi lo m.recs m.kids es ps) (hlu : ∀ p ∈ ps, Lush a p) : NodeE a h m lo hi es ps := by
 obtain ⟨g1, g2⟩ := shaped_less hs hl hz ml hr hk hsu.len
 exact Or.inl ⟨⟨fun r h => hb r (hr.subset h), Or.inr ⟨hh, ml, hsu⟩⟩, g1, g2, hlu⟩
theorem cut_left {u : Pl} {rl' rr : List ByteArray} {s : ByteArray} {kl' kr : List Int} {c at_ : Int} (er : u.n.recs = rl' ++ [s] ++ rr) (ek : u.n.kids = kl' ++ [c] ++ at_ :: kr) (e1 : rl'.length + 1 = u.kid) (e2 : kl'.length + 1 = u.kid) : cutK u.n (u.kid - 1) u.kid = ⟨u.n.leaf, rl' ++ rr, kl' ++ c :: kr⟩ := by
 unfold cutK
 have h0 : u.n.recs.length ≠ 0 := by rw [er]; simp
 rw [if_neg h0, er, ek]
 congr 1
 · rw [show u.kid - 1 = rl'.length by omega, show rl'.length + 1 = (rl' ++ [s]).length by simp, List.drop_left, List.append_assoc, List.take_left]
 · rw [show u.kid = (kl' ++ [c]).length by simp; omega, List.take_left, show (kl' ++ [c]).length + 1 = (kl' ++ [c] ++ [at_]).length by simp, show kl' ++ [c] ++ at_ :: kr = (kl' ++ [c] ++ [at_]) ++ kr by simp, List.drop_left]
   simp
theorem cut_right {u : Pl} {rl rs : List ByteArray} {s : ByteArray} {kl kr : List Int} {c at_ : Int} (er : u.n.recs = rl ++ s :: rs) (ek : u.n.kids = kl ++ at_ :: c :: kr) (e1 : rl.length = u.kid) (e2 : kl.length = u.kid) : cutK u.n u.kid (u.kid + 1) = ⟨u.n.leaf, rl ++ rs, kl ++ at_ :: kr⟩ := by
 unfold cutK
 have h0 : u.n.recs.length ≠ 0 := by rw [er]; simp
 rw [if_neg h0, er, ek]
 congr 1
 · rw [<- e1, List.take_left, show rl.length + 1 = (rl ++ [s]).length by simp, show rl ++ s :: rs = (rl ++ [s]) ++ rs by simp, List.drop_left]
 · rw [<- e2, show kl.length + 1 = (kl ++ [at_]).length by simp, show kl ++ at_ :: c :: kr = (kl ++ [at_]) ++ (c :: kr) by simp, List.take_left, show (kl ++ [at_]).length + 1 = (kl ++ [at_] ++ [c]).length by simp, show kl ++ [at_] ++ c :: kr = (kl ++ [at_] ++ [c]) ++ kr by simp, List.drop_left]
   simp
theorem cut_first {u : Pl} {rr : List ByteArray} {kr : List Int} {at_ : Int} (er : u.n.recs = rr) (ek : u.n.kids = at_ :: kr) (e1 : u.kid = 0) : cutK u.n (u.kid - 1) u.kid = ⟨u.n.leaf, rr.drop 1, kr⟩ := by
 unfold cutK
 rw [e1, er, ek]
 cases rr <;> simp
theorem up_gone {a : Abs} {u : Pl} {h at_ : Nat} {lo hi lo' hi' : ByteArray} {rl rr esl esr : List ByteArray} {kl kr : List Int} {psl psr : List Nat} (hn : Holds a u.at_ u.n) (hl : u.n.leaf = false) (hb : ∀ r ∈ u.n.recs, inB lo hi r) (er : u.n.recs = rl ++ rr) (ek : u.n.kids = kl ++ (at_ : Int) :: kr) (e1 : rl.length = u.kid) (e2 : kl.length = u.kid) (hh : h ≠ 0) (hL : SubL (Sub a h) lo' lo rl kl esl psl) (hR : SubR (Sub a h) hi' hi rr kr esr psr) (hlt : leP lo' hi' \/ hi'.size = 0) (h1 : ∀ p ∈ psl, Lush a p) (h2 : ∀ p ∈ psr, Lush a p) :
 NodeE a h (cutK u.n (u.kid - 1) u.kid) lo hi (esl ++ esr) (psl ++ psr) := by
 have hall : ∀ p ∈ psl ++ psr, Lush a p := fun p hp => by
  rcases List.mem_append.1 hp with hp | hp
  · exact h1 p hp
  · exact h2 p hp
 have wide : ∀ c lo hi lo' hi' es ps, Sub a h c lo hi es ps -> leP lo' lo -> upB hi hi' -> Sub a h c lo' hi' es ps := fun c lo hi lo' hi' es ps k q1 q2 => k.wide q1 q2
 by_cases hk : kl = []
 · subst hk
   have hrl : rl = [] := List.length_eq_zero_iff.1 (by have := hL.len; simpa using this.symm)
   subst hrl
   have hu0 : u.kid = 0 := by simpa using e2.symm
   cases hL
   have ec := cut_first (rr := rr) (kr := kr) (at_ := (at_ : Int)) (by simpa using er) (by simpa using ek) hu0
   rw [ec]
   rcases hR with ⟨rfl, rfl, rfl, rfl, _⟩ | ⟨rs, rfl, t⟩
   · exact Or.inr ⟨rfl, rfl, hl, hh, rfl, rfl⟩
   · have hz : hi'.size ≠ 0 := by
      have := ((shaped_recs hn.shaped).1 hi' (by rw [er]; simp)).1
      omega
     have t2 := t.wide wide (hlt.resolve_right hz) (upB.rf _)
     refine parent_of hn.shaped hl hn.size hb hh hl ?_ ?_ (by simpa using t2) (by simpa using hall)
     · rw [er]; simp
     · rw [ek]; simp
 · obtain ⟨rl', kl', c, lo2, es1, es2, ps1, ps2, q1, q2, q3, q4, q5, q6⟩ := hL.last hk
   subst q1
   subst q2
   subst q5
   subst q6
   have ec := cut_left (u := u) (rl' := rl') (rr := rr) (s := lo') (kl' := kl') (kr := kr) (c := (c : Int)) (at_ := (at_ : Int)) er ek (by simpa using e1) (by simpa using e2)
   rw [ec]
   have hz : lo'.size ≠ 0 := by
    have := ((shaped_recs hn.shaped).1 lo' (by rw [er]; simp)).1
    omega
   have q4' : Sub a h c lo2 hi' es2 ps2 := q4.wide (le_rf _) (by
    rcases hlt with e | e
    · exact Or.inr ⟨hz, e⟩
    · exact Or.inl e)
   have hs := subs_tail q3 (subs_head q4' hR)
   refine parent_of hn.shaped hl hn.size hb hh hl ?_ ?_ (by simpa using hs) (by simpa using hall)
   · rw [er]
     exact (List.sublist_append_left _ _).append (List.Sublist.refl _)
   · rw [ek]
     simp
end Go.Proofs.YtiohkehcpkfleaaGreat
