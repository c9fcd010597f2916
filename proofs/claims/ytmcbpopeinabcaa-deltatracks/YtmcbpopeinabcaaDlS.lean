/-
  DeltaParts: its walk.
-/
import Derived.Deep.CutRange
import Derived.Test.YtmcbpopeinabcaaDlT
namespace Go.Proofs.Ytmcbpopeinabcaa
open Go.RowKit

theorem SlC.take {W : World} {a : Option Addr} {l : List PC} (h : SlC W a l) (k : Nat) : SlC W a (l.take k) := by
  rcases h with rfl | ⟨b, o, e, hlt, hc⟩
  · exact Or.inl (by simp)
  · refine Or.inr ⟨b, o, e, hlt, fun j c hj => hc j c ?_⟩
    rw [List.getElem?_take] at hj
    split at hj
    · exact hj
    · cases hj

theorem slc_drop {W : World} {b o : Nat} {l : List PC} (h : SlC W (some ⟨b, o, none⟩) l) (k : Nat) : SlC W (some ⟨b, o + k * 4, none⟩) (l.drop k) := by
  rcases h with rfl | ⟨b', o', e, hlt, hc⟩
  · exact Or.inl (by simp)
  · cases e
    refine Or.inr ⟨b, _, rfl, hlt, fun j c hj => ?_⟩
    rw [List.getElem?_drop] at hj
    have := hc _ _ hj
    rw [show o + k * 4 + j * 4 = o + (k + j) * 4 by omega]
    exact this

theorem owns_cap {W : World} {base e size : Nat} {a : Option Addr} {n m c : Nat} {xs : List Value} (h : W.ownsRow base e size (.slice a n c) m xs) (hm : m = n) : n ≤ c ∧ c ≤ maxLen := by
  rcases h.2 with ⟨e, h0⟩ | ⟨g, cap, cur, e, _, _, h1, h2, _⟩
  · cases e; exact ⟨Nat.zero_le _, Nat.zero_le _⟩
  · cases e; exact ⟨h1, h2⟩

theorem owns_addr' {W : World} {base e size : Nat} {ad : Addr} {n m c : Nat} {xs : List Value} (h : W.ownsRow base e size (.slice (some ad) n c) m xs) : ∃ g, ad = ⟨g, 0, none⟩ := by
  rcases h.2 with ⟨e, h0⟩ | ⟨g, cap, cur, e, _⟩
  · cases e
  · cases e; exact ⟨g, rfl⟩

/-- append as a step of a region that draws, where what is put on may be no slice at all. -/
theorem step_appS {ops : Array Oper} {o : Oper} {a : Act} {K : Act → World → Prop} {Q : Exit → Act → World → Prop} {E : Prop} {W1 : World} {t e : TypeId} {z : Value} {size bytes : Nat} (ht : Try.prog.underlying t = some (.slice e)) (hinfo : (Try.prog.info? e).map (fun i => (i.zero, i.size, i.bytes)) = some (some z, size, bytes)) (hzs : z.cells.size = size) (hsz : 0 < size) (hby : bytes ≤ 1000)
    (hgd : o.guard = none) (s x : Operand) (ho : o.op = .call { callee := .builtin .append, args := #[s, x], argTypes := #[t, t] })
    (base : Nat) (hbase : base ≤ W1.heap.size) (v : Value) (n : Nat) (xs : List Value) (hs : a.eval s = v) (h : W1.ownsRow base e size v n xs) (b : Option Addr) (m cap : Nat) (news : List Value) (hx : a.eval x = .slice b m cap) (hm : Src W1 b m cap news)
    (hl : news.length = m * size) (h1 : ∀ u ∈ news, u.oneCell' = true) (hn : n + m ≤ 1000000)
    (hK : ∀ v' W', W'.ownsRow base e size v' (n + m) (xs ++ news) → W1.grownBy W' v.ownBlock → K (a.put o.dst v') W') :
    if Region.wanted o (yielded ops a.tmps) = true then Oper.wp Try.prog o a W1 K Q else E := by
  rcases hm with ⟨rfl, rfl, rfl, rfl⟩ | ⟨ad, rfl, hc⟩
  · have hw : Region.wanted o (yielded ops a.tmps) = true := by simp [Region.wanted, hgd]
    rw [if_pos hw]
    obtain ⟨i, hi, hz⟩ := Option.map_eq_some_iff.1 hinfo
    have hrun := run_append_owned_none (P := Try.prog) (w := W1) base t o.type e i size ht hi v n xs h
    unfold Oper.wp
    simp [execOp, ho, resolve, invoke, builtin, hs, hx, hrun, Result.andThen]
    exact hK v W1 (by simpa using h) ⟨rfl, rfl, rfl, Nat.le_refl _, fun _ _ _ => rfl⟩
  · exact step_app ht hinfo hzs hsz hby hgd s x ho base hbase v n xs hs h ad m cap news hx hc hl h1 hn hK

/-- Changes whose lists lie in rows of their own. -/
structure Lone (W : World) (N : List PC) : Prop where
  all : AllM W N
  rows : ∀ x ∈ N, W.ownsRow 0 55 3 (.slice x.1.na x.1.nl x.1.nc) x.1.nl (vcs x.2.n) ∧ W.ownsRow 0 55 3 (.slice x.1.oa x.1.ol x.1.oc) x.1.ol (vcs x.2.o)

theorem NetW.lone {w W : World} {v : Value} {N : List PC} (h : NetW w v N W) : Lone W N := ⟨h.all, fun x hx => ⟨owns_mono (h.rows x hx) fun _ _ => Nat.zero_le _, owns_mono (h.olds x hx) fun _ _ => Nat.zero_le _⟩⟩

theorem Lone.on {W W' : World} {N : List PC} (h : Lone W N) (hb : Below W.heap.size W W') : Lone W' N :=
  ⟨h.all.below hb, fun x hx => ⟨owns_below (h.rows x hx).1 fun q hq => hb.block q ((h.rows x hx).1.lt q hq).2, owns_below (h.rows x hx).2 fun q hq => hb.block q ((h.rows x hx).2.lt q hq).2⟩⟩

theorem Lone.grown {W W' : World} {N : List PC} {b n e : Nat} {u : Value} {xs : List Value} (h : Lone W N) (hu : W.ownsRow b e 4 u n xs) (he : 55 ≠ e) (G : W.grownBy W' u.ownBlock) : Lone W' N := by
  have keep : ∀ {b n : Nat} {v : Value} {ys : List Value}, W.ownsRow b 55 3 v n ys → W'.ownsRow b 55 3 v n ys := fun hv => owns_below hv fun q hq => G.block q (hv.lt q hq).2 fun e => owns_ne hv hu he hq e.symm
  refine ⟨fun x hx => ?_, fun x hx => ⟨keep (h.rows x hx).1, keep (h.rows x hx).2⟩⟩
  have m := h.all x hx
  exact ⟨m.t, m.id, m.ol, m.nl, m.ob, m.nb, (owns_sl (keep (h.rows x hx).2)).2.1, (owns_sl (keep (h.rows x hx).1)).2.1, m.oc, m.nc, m.tb, m.ib⟩

theorem Lone.app {W : World} {N M : List PC} (h : Lone W N) (k : Lone W M) : Lone W (N ++ M) :=
  ⟨fun x hx => (List.mem_append.1 hx).elim (h.all x) (k.all x), fun x hx => (List.mem_append.1 hx).elim (h.rows x) (k.rows x)⟩

/-- A list of copies, gathered from a world on. -/
structure PartW (w : World) (v : Value) (N : List PC) (W : World) : Prop where
  below : Below w.heap.size w W
  own : W.ownsRow w.heap.size 27 4 v N.length (rcs N)
  lone : Lone W N

theorem PartW.on {w W W' : World} {v : Value} {N : List PC} (h : PartW w v N W) (hb : Below W.heap.size W W') : PartW w v N W' :=
  ⟨below_on h.below hb h.below.size, owns_below h.own fun q hq => hb.block q (h.own.lt q hq).2, h.lone.on hb⟩

theorem PartW.grow {w W W' : World} {v v' : Value} {N M : List PC} (h : PartW w v N W) (k : Lone W M) (O : W'.ownsRow w.heap.size 27 4 v' (N.length + M.length) (rcs N ++ rcs M)) (G : W.grownBy W' v.ownBlock) : PartW w v' (N ++ M) W' :=
  ⟨h.below.grown G h.below.size fun q hq => (h.own.lt q hq).1, by rw [List.length_append, rcs_append]; exact O, (h.lone.app k).grown h.own (by decide) G⟩

theorem part_cases {W : World} {base e size : Nat} {a : Option Addr} {n m c k : Nat} {xs : List Value} (h : W.ownsRow base e size (.slice a n c) m xs) (hm : m = n) (hk : k ≤ n) : (a = none ∧ n = 0 ∧ c = 0) ∨ (∃ g, a = some ⟨g, 0, none⟩ ∧ c = k) ∨ ∃ g, a = some ⟨g, 0, none⟩ ∧ c ≠ k := by
  rcases h.2 with ⟨e, h0⟩ | ⟨g, cap, cur, e, _⟩
  · cases e; exact Or.inl ⟨rfl, rfl, rfl⟩
  · cases e
    by_cases hc : c = k
    · exact Or.inr (Or.inl ⟨g, rfl, hc⟩)
    · exact Or.inr (Or.inr ⟨g, rfl, hc⟩)

/-- An empty row. -/
theorem part_new {w W : World} (hb : Below w.heap.size w W) {q : Nat} (hq : W.heap[q]? = some (.cells #[] 27 (0, 0))) (hw : w.heap.size ≤ q) : PartW w (.slice (some ⟨q, 0, none⟩) 0 0) [] W :=
  ⟨hb, ⟨by simp [rcs], Or.inr ⟨q, 0, #[], rfl, hw, hq, Nat.le_refl _, by unfold maxLen; omega, by simp, by simp [rcs]⟩⟩, ⟨fun _ h => (by cases h), fun _ h => (by cases h)⟩⟩

theorem half_a {W3 W4 : World} {v : Value} {N : List PC} (h : NetW (W3.alloc (.cells #[] 27)).drew v N W4) : PartW W3 (.slice (some ⟨W3.heap.size, 0, none⟩) 0 0) [] W4 ∧ Lone W4 N ∧ Below W3.heap.size W3 W4 := by
  have hb : Below W3.heap.size W3 W4 := below_on (below_alloc W3 (.cells #[] 27)).drew h.below (by show _ ≤ (W3.alloc (.cells #[] 27)).heap.size; simp)
  refine ⟨part_new hb ?_ (Nat.le_refl _), h.lone, hb⟩
  rw [h.below.block _ (by show _ < (W3.alloc (.cells #[] 27)).heap.size; simp)]
  exact go_heap_new _ _

theorem half_b {W3 W4 : World} {v : Value} {N : List PC} (h : NetW W3.drew v N W4) : PartW W3 (.slice (some ⟨W4.heap.size, 0, none⟩) 0 0) [] (W4.alloc (.cells #[] 27)) ∧ Lone (W4.alloc (.cells #[] 27)) N ∧ NetW W3.drew v N (W4.alloc (.cells #[] 27)) := by
  have hb : Below W3.heap.size W3 W4 := below_on (Below.refl _ _).drew h.below (Nat.le_refl _)
  have h' := h.on (below_alloc W4 (.cells #[] 27))
  exact ⟨part_new (below_on hb (below_alloc _ _) hb.size) (go_heap_new _ _) hb.size, h'.lone, h'⟩

set_option maxRecDepth 100000 in
set_option maxHeartbeats 2000000 in
theorem parts_walk {l : List OpD} {a : Option Addr} {n c : Nat} {cut : Nat} {w : World} (h : OpsIn w a l) (hl : l.length = n) (hcut : cut < 256) :
    Calls Try.prog 5 #[.slice a n c, .int .u8 (cut : Int)] w fun e w' => e = .returned (.bool true) ∧ Below w.heap.size w w' := by
  have HH := dhid h
  have HL := dhid hl
  clear h hl
  have hmk := fun W => run_makeMap (P := Try.prog) 42 W
  go_enter Try.func5, Try.ntmps5
  go_wp2_with fail
  refine (awake_walk w).mono ?_
  rintro e W1 ⟨rfl, B1⟩
  have HB1 := dhid B1
  have HFW := dhid (few_walk (c := c) (HH.out.below B1) HL.out)
  clear B1
  go_wp2_with fail
  refine HFW.out.mono ?_
  rintro e W2 ⟨bf, rfl, hf, B2⟩
  have HB2 := dhid (below_on HB1.out B2 HB1.out.size)
  clear B2 HFW HB1
  cases bf
  · go_wp2
    go_ret
    exact ⟨rfl, HB2.out⟩
  · have HF := dhid (hf rfl)
    have HC := dhid (made_changes (c := c) (HH.out.below HB2.out) HL.out HF.out)
    clear hf
    go_wp2_with fail
    refine HC.out.mono ?_
    rintro e W3 ⟨v3, rfl, M3⟩
    have HM3 := dhid M3
    have hll : (chgL [] l).length = n := by rw [chgL_length, HL.out]
    have hn : n ≤ 60 := by rw [← HL.out]; exact HF.out.1
    have HCH := dhid (chg_chain l [])
    have HAP := dhid (fun k => (chgL_append (l.take k) (l.drop k) []).symm.trans (by rw [List.take_append_drop]))
    have HC1 := dhid (fun k => chg_chain (l.take k) [])
    have HC2 := dhid (fun k => chg_chain (l.drop k) (chgS [] (l.take k)))
    obtain ⟨a3, c3, e3⟩ := owns_slice M3.own
    rw [hll] at e3
    subst e3
    have HB3 := dhid (below_on HB2.out M3.below HB2.out.size)
    have HLL := dhid hll
    have HE0 : Hid (((cut : Int)) % ((n : Int) + 1) = ((cut % (n + 1) : Nat) : Int)) := by show _ = _; rw [Int.natCast_emod]; rfl
    clear M3 HC HB2 hmk hll
    go_upto_region 7 with fail
    rw [HE0.out]
    have hk : cut % (n + 1) ≤ n := by have := Nat.mod_lt cut (show 0 < n + 1 by omega); omega
    generalize cut % (n + 1) = k at *
    have hnc : n ≤ c3 ∧ c3 ≤ maxLen := owns_cap HM3.out.own HLL.out
    obtain ⟨hnc, hcm⟩ := hnc
    unfold maxLen at hcm
    have HN1 : Hid (∀ W cc, Below W3.heap.size W3 W → Calls Try.prog 14 #[.slice a3 k cc] W fun e w' => ∃ v, e = .returned v ∧ ∃ N, NetW W v N w' ∧ Diff (sg []) (sg (chgS [] (l.take k))) (N.map (·.2)) ∧ N.length ≤ 60) := fun W cc hW => by
      have hM := HM3.out.on hW
      have e : (chgL [] l).take k = chgL [] (l.take k) := by
        have h1 := HAP.out k
        have h2 : (chgL [] (l.take k)).length = k := by rw [chgL_length, List.length_take, HL.out]; omega
        rw [← h1, List.take_left' h2]
      have hlen : ((chgL [] l).take k).length = k := by rw [List.length_take, HLL.out]; omega
      refine (net_walk (c := cc) ((hM.slc HLL.out).take k) (fun x hx => hM.all x (List.mem_of_mem_take hx)) hlen (by omega)).mono ?_
      rintro e' w' ⟨v, rfl, N, hN, hi⟩
      have hlN := hi.len
      rw [List.length_map, List.length_map, hlen] at hlN
      rw [e] at hi
      exact ⟨v, rfl, N, hN, (HC1.out k).net hi, by omega⟩
    have HN2 : Hid (∀ W b cc, Below W3.heap.size W3 W → SlC W b ((chgL [] l).drop k) → Calls Try.prog 14 #[.slice b (n - k) cc] W fun e w' => ∃ v, e = .returned v ∧ ∃ N, NetW W v N w' ∧ Diff (sg (chgS [] (l.take k))) (sg (chgS [] l)) (N.map (·.2)) ∧ N.length ≤ 60) := fun W b cc hW hs => by
      have hM := HM3.out.on hW
      have e : (chgL [] l).drop k = chgL (chgS [] (l.take k)) (l.drop k) := by
        have h1 := HAP.out k
        have h2 : (chgL [] (l.take k)).length = k := by rw [chgL_length, List.length_take, HL.out]; omega
        rw [← h1, List.drop_left' h2]
      have hlen : ((chgL [] l).drop k).length = n - k := by rw [List.length_drop, HLL.out]
      refine (net_walk (c := cc) hs (fun x hx => hM.all x (List.mem_of_mem_drop hx)) hlen (by omega)).mono ?_
      rintro e' w' ⟨v, rfl, N, hN, hi⟩
      have hlN := hi.len
      rw [List.length_map, List.length_map, hlen] at hlN
      rw [e] at hi
      have hd := (HC2.out k).net hi
      have es : chgS (chgS [] (l.take k)) (l.drop k) = chgS [] l := by
        unfold chgS; rw [← List.foldl_append, List.take_append_drop]
      rw [es] at hd
      exact ⟨v, rfl, N, hN, hd, by omega⟩
    have i1 : (k : Int) ≤ (c3 : Int) := by omega
    have i2 : (k : Int) ≤ (n : Int) := by omega
    have i3 : (n : Int) ≤ (c3 : Int) := by omega
    have HS5 : Hid (∀ W, Below W3.heap.size W3 W → ∀ b o, a3 = some ⟨b, o, none⟩ → SlC W (some ⟨b, o + k * 4, none⟩) ((chgL [] l).drop k)) := fun W hW b o e => by
      have h := ((HM3.out.on hW).slc HLL.out)
      rw [e] at h
      exact slc_drop h k
    clear HAP HC1 HC2
    go_cut [7] from 22 to 32 (fun s7 wx => Hid (∃ P, PartW W3 s7 P wx ∧ Chain (sg []) (sg (chgS [] l)) (P.map (·.2)) ∧ P.length ≤ 120))
    case first =>
      rcases part_cases HM3.out.own HLL.out hk with ⟨rfl, h0, h1⟩ | ⟨g, rfl, h1⟩ | ⟨g, rfl, h1⟩
      · subst h0
        subst h1
        have hk0 : k = 0 := by omega
        subst hk0
        replace HS5 : Hid (∀ W, Below W3.heap.size W3 W → SlC W none ((chgL [] l).drop 0)) := fun W hW => Or.inl (by rw [List.drop_zero]; exact List.length_eq_zero_iff.1 HLL.out)
        go_region_held_law (fun _ => True) (trivial) (first
          | (go_at_call 14; with_reducible refine (HN1.out _ _ ?_).mono ?_
             · repeat (first | exact Below.refl _ _ | refine Below.drew ?_ | refine Below.alloc ?_ (by simp) _)
             rintro e W4 ⟨v4, rfl, N4, hN4, hD4, hl4⟩
             obtain ⟨a4, c4, rfl⟩ := owns_slice hN4.own
             have HN4 := dhid hN4
             have HD4 := dhid hD4
             clear hN4 hD4 HN1)
          | (go_at_call 14; with_reducible refine (HN2.out _ _ _ HP5.out.below ?_).mono ?_
             · exact HS5.out _ HP5.out.below
             rintro e W6 ⟨v6, rfl, N6, hN6, hD6, hl6⟩
             obtain ⟨a6, c6, rfl⟩ := owns_slice hN6.own
             have HN6 := dhid hN6
             have HD6 := dhid hD6
             have HP6 := dhid (HP5.out.on hN6.below)
             obtain ⟨a5, c5, rfl⟩ := owns_slice HP5.out.own
             clear hN6 hD6 HN2)
          | (refine step_appS Try.underlying22 infoChg rfl (by decide) (by decide) rfl (.tmp 22) (.tmp 26) rfl W3.heap.size (half_a HN4.out).1.below.size (.slice (some ⟨W3.heap.size, 0, none⟩) 0 0) 0 (rcs []) ?_ (half_a HN4.out).1.own a4 N4.length c4 (rcs N4) ?_ (owns_src HN4.out.own) (rcs_length _) rcs_one (by omega) ?_
             · first | (simp [Act.eval]; done) | (simp [Act.eval, Act.put]; done)
             · first | (simp [Act.eval]; done) | (simp [Act.eval, Act.put]; done)
             intro v5 W5 O5 G5
             have HP5 := dhid (PartW.grow (half_a HN4.out).1 (half_a HN4.out).2.1 O5 G5)
             clear O5 G5 HN4)
          | (refine step_appS Try.underlying22 infoChg rfl (by decide) (by decide) rfl (.tmp 22) (.tmp 26) rfl W3.heap.size (half_b HN4.out).1.below.size (.slice (some ⟨W4.heap.size, 0, none⟩) 0 0) 0 (rcs []) ?_ (half_b HN4.out).1.own a4 N4.length c4 (rcs N4) ?_ (owns_src (half_b HN4.out).2.2.own) (rcs_length _) rcs_one (by omega) ?_
             · first | (simp [Act.eval]; done) | (simp [Act.eval, Act.put]; done)
             · first | (simp [Act.eval]; done) | (simp [Act.eval, Act.put]; done)
             intro v5 W5 O5 G5
             have HP5 := dhid (PartW.grow (half_b HN4.out).1 (half_b HN4.out).2.1 O5 G5)
             clear O5 G5 HN4)
          | (refine step_appS Try.underlying22 infoChg rfl (by decide) (by decide) rfl (.tmp 27) (.tmp 31) rfl W3.heap.size HP6.out.below.size (.slice a5 ([] ++ N4).length c5) ([] ++ N4).length (rcs ([] ++ N4)) ?_ HP6.out.own a6 N6.length c6 (rcs N6) ?_ (owns_src HN6.out.own) (rcs_length _) rcs_one (by simp; omega) ?_
             · first | (simp [Act.eval]; done) | (simp [Act.eval, Act.put]; done)
             · first | (simp [Act.eval]; done) | (simp [Act.eval, Act.put]; done)
             intro v7 W7 O7 G7
             have HP7 := dhid (PartW.grow HP6.out HN6.out.lone O7 G7)
             clear O7 G7 HP6 HN6))
        all_goals
          go_simp
          go_wp2_with fail
          go_meet
          exact ⟨_, HP7.out, HD4.out.chain.app HD6.out.chain |> fun h => by rwa [List.nil_append, List.map_append], by simp; omega⟩
      · subst h1
        rw [show n - c3 = 0 by omega] at HN2
        replace HS5 : Hid (∀ W, Below W3.heap.size W3 W → SlC W (some ⟨g, 0, none⟩) ((chgL [] l).drop c3)) := fun W hW => Or.inl (List.drop_eq_nil_of_le (by rw [HLL.out]; omega))
        go_region_held_law (fun _ => True) (trivial) (first
          | (go_at_call 14; with_reducible refine (HN1.out _ _ ?_).mono ?_
             · repeat (first | exact Below.refl _ _ | refine Below.drew ?_ | refine Below.alloc ?_ (by simp) _)
             rintro e W4 ⟨v4, rfl, N4, hN4, hD4, hl4⟩
             obtain ⟨a4, c4, rfl⟩ := owns_slice hN4.own
             have HN4 := dhid hN4
             have HD4 := dhid hD4
             clear hN4 hD4 HN1)
          | (go_at_call 14; with_reducible refine (HN2.out _ _ _ HP5.out.below ?_).mono ?_
             · exact HS5.out _ HP5.out.below
             rintro e W6 ⟨v6, rfl, N6, hN6, hD6, hl6⟩
             obtain ⟨a6, c6, rfl⟩ := owns_slice hN6.own
             have HN6 := dhid hN6
             have HD6 := dhid hD6
             have HP6 := dhid (HP5.out.on hN6.below)
             obtain ⟨a5, c5, rfl⟩ := owns_slice HP5.out.own
             clear hN6 hD6 HN2)
          | (refine step_appS Try.underlying22 infoChg rfl (by decide) (by decide) rfl (.tmp 22) (.tmp 26) rfl W3.heap.size (half_a HN4.out).1.below.size (.slice (some ⟨W3.heap.size, 0, none⟩) 0 0) 0 (rcs []) ?_ (half_a HN4.out).1.own a4 N4.length c4 (rcs N4) ?_ (owns_src HN4.out.own) (rcs_length _) rcs_one (by omega) ?_
             · first | (simp [Act.eval]; done) | (simp [Act.eval, Act.put]; done)
             · first | (simp [Act.eval]; done) | (simp [Act.eval, Act.put]; done)
             intro v5 W5 O5 G5
             have HP5 := dhid (PartW.grow (half_a HN4.out).1 (half_a HN4.out).2.1 O5 G5)
             clear O5 G5 HN4)
          | (refine step_appS Try.underlying22 infoChg rfl (by decide) (by decide) rfl (.tmp 22) (.tmp 26) rfl W3.heap.size (half_b HN4.out).1.below.size (.slice (some ⟨W4.heap.size, 0, none⟩) 0 0) 0 (rcs []) ?_ (half_b HN4.out).1.own a4 N4.length c4 (rcs N4) ?_ (owns_src (half_b HN4.out).2.2.own) (rcs_length _) rcs_one (by omega) ?_
             · first | (simp [Act.eval]; done) | (simp [Act.eval, Act.put]; done)
             · first | (simp [Act.eval]; done) | (simp [Act.eval, Act.put]; done)
             intro v5 W5 O5 G5
             have HP5 := dhid (PartW.grow (half_b HN4.out).1 (half_b HN4.out).2.1 O5 G5)
             clear O5 G5 HN4)
          | (refine step_appS Try.underlying22 infoChg rfl (by decide) (by decide) rfl (.tmp 27) (.tmp 31) rfl W3.heap.size HP6.out.below.size (.slice a5 ([] ++ N4).length c5) ([] ++ N4).length (rcs ([] ++ N4)) ?_ HP6.out.own a6 N6.length c6 (rcs N6) ?_ (owns_src HN6.out.own) (rcs_length _) rcs_one (by simp; omega) ?_
             · first | (simp [Act.eval]; done) | (simp [Act.eval, Act.put]; done)
             · first | (simp [Act.eval]; done) | (simp [Act.eval, Act.put]; done)
             intro v7 W7 O7 G7
             have HP7 := dhid (PartW.grow HP6.out HN6.out.lone O7 G7)
             clear O7 G7 HP6 HN6))
        all_goals
          go_simp
          go_wp2_with fail
          go_meet
          exact ⟨_, HP7.out, HD4.out.chain.app HD6.out.chain |> fun h => by rwa [List.nil_append, List.map_append], by simp; omega⟩
      · have i4 : ¬ c3 - k = 0 := by omega
        have i5 : ¬ c3 = k := by omega
        replace HS5 : Hid (∀ W, Below W3.heap.size W3 W → SlC W (some ⟨g, 0 + k * 4, none⟩) ((chgL [] l).drop k)) := fun W hW => HS5.out W hW g 0 rfl
        rw [Nat.zero_add] at HS5
        go_region_held_law (fun _ => True) (trivial) (first
          | (go_at_call 14; with_reducible refine (HN1.out _ _ ?_).mono ?_
             · repeat (first | exact Below.refl _ _ | refine Below.drew ?_ | refine Below.alloc ?_ (by simp) _)
             rintro e W4 ⟨v4, rfl, N4, hN4, hD4, hl4⟩
             obtain ⟨a4, c4, rfl⟩ := owns_slice hN4.own
             have HN4 := dhid hN4
             have HD4 := dhid hD4
             clear hN4 hD4 HN1)
          | (go_at_call 14; with_reducible refine (HN2.out _ _ _ HP5.out.below ?_).mono ?_
             · exact HS5.out _ HP5.out.below
             rintro e W6 ⟨v6, rfl, N6, hN6, hD6, hl6⟩
             obtain ⟨a6, c6, rfl⟩ := owns_slice hN6.own
             have HN6 := dhid hN6
             have HD6 := dhid hD6
             have HP6 := dhid (HP5.out.on hN6.below)
             obtain ⟨a5, c5, rfl⟩ := owns_slice HP5.out.own
             clear hN6 hD6 HN2)
          | (refine step_appS Try.underlying22 infoChg rfl (by decide) (by decide) rfl (.tmp 22) (.tmp 26) rfl W3.heap.size (half_a HN4.out).1.below.size (.slice (some ⟨W3.heap.size, 0, none⟩) 0 0) 0 (rcs []) ?_ (half_a HN4.out).1.own a4 N4.length c4 (rcs N4) ?_ (owns_src HN4.out.own) (rcs_length _) rcs_one (by omega) ?_
             · first | (simp [Act.eval]; done) | (simp [Act.eval, Act.put]; done)
             · first | (simp [Act.eval]; done) | (simp [Act.eval, Act.put]; done)
             intro v5 W5 O5 G5
             have HP5 := dhid (PartW.grow (half_a HN4.out).1 (half_a HN4.out).2.1 O5 G5)
             clear O5 G5 HN4)
          | (refine step_appS Try.underlying22 infoChg rfl (by decide) (by decide) rfl (.tmp 22) (.tmp 26) rfl W3.heap.size (half_b HN4.out).1.below.size (.slice (some ⟨W4.heap.size, 0, none⟩) 0 0) 0 (rcs []) ?_ (half_b HN4.out).1.own a4 N4.length c4 (rcs N4) ?_ (owns_src (half_b HN4.out).2.2.own) (rcs_length _) rcs_one (by omega) ?_
             · first | (simp [Act.eval]; done) | (simp [Act.eval, Act.put]; done)
             · first | (simp [Act.eval]; done) | (simp [Act.eval, Act.put]; done)
             intro v5 W5 O5 G5
             have HP5 := dhid (PartW.grow (half_b HN4.out).1 (half_b HN4.out).2.1 O5 G5)
             clear O5 G5 HN4)
          | (refine step_appS Try.underlying22 infoChg rfl (by decide) (by decide) rfl (.tmp 27) (.tmp 31) rfl W3.heap.size HP6.out.below.size (.slice a5 ([] ++ N4).length c5) ([] ++ N4).length (rcs ([] ++ N4)) ?_ HP6.out.own a6 N6.length c6 (rcs N6) ?_ (owns_src HN6.out.own) (rcs_length _) rcs_one (by simp; omega) ?_
             · first | (simp [Act.eval]; done) | (simp [Act.eval, Act.put]; done)
             · first | (simp [Act.eval]; done) | (simp [Act.eval, Act.put]; done)
             intro v7 W7 O7 G7
             have HP7 := dhid (PartW.grow HP6.out HN6.out.lone O7 G7)
             clear O7 G7 HP6 HN6))
        all_goals
          go_simp
          go_wp2_with fail
          go_meet
          exact ⟨_, HP7.out, HD4.out.chain.app HD6.out.chain |> fun h => by rwa [List.nil_append, List.map_append], by simp; omega⟩
    case rest =>
      obtain ⟨P, hP, hch, hPl⟩ := hcut.out
      clear hcut HS5 HN1 HN2
      have HP := dhid hP
      have HCP := dhid hch
      obtain ⟨aP, cP, rfl⟩ := owns_slice hP.own
      have HN7 := dhid (net_walk (c := cP) (owns_slc hP.own).2.1 hP.lone.all rfl (by omega))
      clear hP hch
      obtain ⟨PL, HPL⟩ : ∃ m, Hid (P.length = m) := ⟨_, rfl⟩
      rw [HPL.out] at hPl HN7 ⊢
      go_wp2_with fail
      refine HN7.out.mono ?_
      rintro e W7 ⟨v7, rfl, N7, hN7, hi7⟩
      have HD7 := dhid (HCP.out.net hi7)
      have hl7 : N7.length ≤ 120 := by have := hi7.len; simp [HPL.out] at this; omega
      obtain ⟨a7, c7, rfl⟩ := owns_slice hN7.own
      have HA7 := dhid hN7.all
      have HS7 := dhid (owns_slc hN7.own).2.1
      have HPL7 := dhid (plain_walk (c := c7) (owns_slc hN7.own).2.1 rfl (by omega))
      have HB7 := dhid (below_on HP.out.below hN7.below HP.out.below.size)
      clear hN7 hi7 HN7
      obtain ⟨L7, HL7⟩ : ∃ m, Hid (N7.length = m) := ⟨_, rfl⟩
      rw [HL7.out] at hl7 HPL7 ⊢
      go_wp2_with fail
      refine HPL7.out.mono ?_
      rintro e W8 ⟨v8, rfl, hp8⟩
      have HP8 := dhid hp8
      have HB8 := dhid (below_on HB7.out hp8.below HB7.out.size)
      have HM8 := dhid (HM3.out.on HB8.out)
      have HN9 := dhid (net_walk (c := c3) (HM8.out.slc HLL.out) HM8.out.all HLL.out (by omega))
      clear hp8 HPL7
      go_wp2_with fail
      refine HN9.out.mono ?_
      rintro e W9 ⟨v9, rfl, N9, hN9, hi9⟩
      have HD9 := dhid (HCH.out.net hi9)
      have he79 : N7.map (·.2) = N9.map (·.2) := HD7.out.uniq HD9.out
      have hl9 : N9.length = L7 := by rw [← HL7.out]; have := congrArg List.length he79; simpa using this.symm
      obtain ⟨a9, c9, e9⟩ := owns_slice hN9.own
      rw [hl9] at e9
      subst e9
      have HA9 := dhid hN9.all
      have hs9 : SlC W9 a9 N9 := by have h := hN9.own; rw [hl9] at h; exact (owns_slc h).2.1
      have HPL9 := dhid (plain_walk (c := c9) hs9 hl9 (by omega))
      have HP9 := dhid (HP8.out.on hN9.below)
      have HB9 := dhid (below_on HB8.out hN9.below HB8.out.size)
      have HE79 := dhid he79
      have HL9 := dhid hl9
      clear hN9 hi9 HN9 he79 hs9 hl9 HM8
      go_wp2_with fail
      refine HPL9.out.mono ?_
      rintro e W10 ⟨v10, rfl, hp10⟩
      obtain ⟨a8, c8, e8⟩ := owns_slice HP9.out.own
      rw [HL7.out] at e8
      subst e8
      obtain ⟨a10, c10, e10⟩ := owns_slice hp10.own
      rw [HL9.out] at e10
      subst e10
      have HP10 := HP9.out.on hp10.below
      have hs1 : SlC W10 a8 N7 := by have h := HP10.own; rw [HL7.out] at h; exact (owns_slc h).2.1
      have hs2 : SlC W10 a10 N9 := by have h := hp10.own; rw [HL9.out] at h; exact (owns_slc h).2.1
      have HSM := dhid (csame_walk (c := c8) (d := c10) hs1 hs2 (HA7.out.below (HP10.below)) (HA9.out.below hp10.below) HE79.out HL7.out (by omega))
      have HB10 := dhid (below_on HB3.out (below_on HB9.out hp10.below HB9.out.size) HB3.out.size)
      clear HP10 hs1 hs2 hp10 HPL9
      go_wp2_with fail
      refine HSM.out.mono ?_
      rintro e W11 ⟨rfl, q, rfl⟩
      go_wp2
      go_ret
      exact ⟨rfl, below_drewN HB10.out q⟩
end Go.Proofs.Ytmcbpopeinabcaa
