/-
  TreeOrders: its walk.
-/
import Derived.Deep.RegionLaw
import Derived.Deep.CutRange
import Derived.Test.YtmochjhhmahokabMAX
namespace Go.Proofs.Ytmochjhhmahokab
open Go.RowKit
open L4 (Ar ArP Abs arV nv)
open L5 (ltP)

set_option maxRecDepth 100000 in
set_option maxHeartbeats 1000000 in
theorem same_strs {l : List ByteArray} {a b : Option Addr} {c d : Nat} {w : World} (h1 : L5.Rd w a c (L5.svs l)) (h2 : L5.Rd w b d (L5.svs l)) (hl : l.length ≤ 100000) :
    Calls Try.prog 8 #[.slice a l.length c, .slice b l.length d] w fun e w' => e = .returned (.bool true) ∧ Below w.heap.size w w' := by
  have H1 := thid h1
  have H2 := thid h2
  clear h1 h2
  go_enter Try.func8, Try.ntmps8
  go_wp2_with fail
  go_loopw [5] (fun i wr => ∃ j : Nat, j ≤ l.length ∧ i = .int .i64 (j : Int) ∧ Hid (Below w.heap.size w wr)) (fun i _ => l.length - (intOf i).toNat)
  case atStart => exact ⟨0, Nat.zero_le _, rfl, Below.refl _ _⟩
  case round =>
    obtain ⟨j, hj, rfl, HB⟩ := hrel
    by_cases hlt : j < l.length
    · have hlt' : (j : Int) < (l.length : Int) := by omega
      obtain ⟨x1, o1, rfl, l1, c1⟩ := H1.out.str j hlt
      obtain ⟨x2, o2, rfl, l2, c2⟩ := H2.out.str j hlt
      generalize l[j] = y at *
      have e1 := (HB.out.cell (p := ⟨x1, o1 + j, none⟩) l1).trans c1
      have e2 := (HB.out.cell (p := ⟨x2, o2 + j, none⟩) l2).trans c2
      have m1 : x1 < wr.heap.size := Nat.lt_of_lt_of_le l1 HB.out.size
      have m2 : x2 < wr.heap.size := Nat.lt_of_lt_of_le l2 HB.out.size
      have hyy : (y.toList != y.toList) = false := by simp
      go_wp2_with fail
      go_quiet (fail)
      go_wp2
      exact ⟨⟨j + 1, by omega, by go_num, by first | exact HB | exact below_drewN HB.out _⟩, by simp [intOf]; omega⟩
    · have hlt' : (l.length : Int) ≤ (j : Int) := by omega
      go_wp2
      go_ret
      exact ⟨rfl, HB.out⟩

/-- The texts that count. -/
def okT (x : ByteArray) : Prop := 1 ≤ x.size ∧ x.size ≤ 400

theorem news_two {w0 w1 w2 w3 : World} {s s2 s3 : Ar} {r r' : Nat} (h0 : Below w0.heap.size w0 w1) (own0 : ∀ k, s.own k → w0.heap.size ≤ k) (hu : s.abs.used = 0) (hq : s.abs.q = 4000)
    (t1 : TW s2 w1.heap.size r 1 [] [r] w2) (g1 : Grew s.abs s2.abs [] [r]) (o1 : Only (fun k => s.own k ∨ k = w1.heap.size) w1 w2) (n1 : ∀ k, s2.own k → s.own k ∨ w1.heap.size ≤ k)
    (t2 : TW s3 w2.heap.size r' 1 [] [r'] w3) (p2 : s3.p = s2.p) (g2 : Grew s2.abs s3.abs [] [r']) (o2 : Only (fun k => s2.own k ∨ k = w2.heap.size) w2 w3) (n2 : ∀ k, s3.own k → s2.own k ∨ w2.heap.size ≤ k) : Two w0 s3 w1.heap.size w2.heap.size r 1 r' 1 [] [] [r] [r'] w3 := by
  have z1 := h0.size
  have lt1 := (Array.getElem?_eq_some_iff.1 t1.tr.blk).1
  have hr' : r' ≠ r := fun e => by
    rcases g2.fresh r' (by simp) with h | h
    · cases h
    · obtain ⟨c, hc⟩ := t1.tp.sub.pages r (by simp)
      rw [e, hc] at h; cases h
  have own2 : ∀ k, s2.own k → w0.heap.size ≤ k := fun k hk => by
    rcases n1 k hk with h | h
    · exact own0 k h
    · omega
  have fr : ∀ p ∈ [r], s3.abs.at (p : Int) = s2.abs.at (p : Int) := fun p hp => g2.frame p (by simp) (t1.tp.sub.pages p hp)
  have tb : w3.heap[w1.heap.size]? = w2.heap[w1.heap.size]? := o2.block _ lt1 fun x => by
    rcases x with x | x
    · exact not_own t1.ar t1.tr.blk (by decide) (by decide) (by decide) x
    · omega
  refine ⟨⟨t2.ar, t2.ok, ⟨by rw [p2]; exact tb.trans t1.tr.blk⟩, t1.tp.frame fr⟩, t2, fun p h1 h2 => ?_, ?_, g2.q.trans (g1.q.trans hq), Or.inl ⟨rfl, rfl⟩, Or.inl ⟨rfl, rfl⟩, fun k hk => ?_, z1, by omega, by omega, ?_⟩
  · simp at h1 h2
    exact hr' (by rw [← h2, h1])
  · have u1 := g1.used
    have u2 := g2.used
    simp at u1 u2 ⊢
    omega
  · rcases n2 k hk with h | h
    · exact own2 k h
    · omega
  · refine (h0.trans (o1.below h0.size fun k hk x => ?_)).trans (o2.below (by omega) fun k hk x => ?_)
    · rcases x with x | x
      · have := own0 k x; omega
      · omega
    · rcases x with x | x
      · have := own2 k x; omega
      · omega

/-- The entry k taken out of a list in place. -/
theorem left_cut {w : World} {B g cap : Nat} {ls : List ByteArray} (h : w.ownsRow B 9 1 (.slice (some ⟨g, 0, none⟩) ls.length cap) ls.length (L5.svs ls)) {k : Nat} (hk : k < ls.length) :
    (w.setCells g k (L5.svs (ls.drop (k + 1)))).ownsRow B 9 1 (.slice (some ⟨g, 0, none⟩) (ls.length - 1) cap) (ls.length - 1) (L5.svs (ls.take k ++ ls.drop (k + 1))) ∧ w.grownBy (w.setCells g k (L5.svs (ls.drop (k + 1)))) (some g) ∧ g < w.heap.size ∧ ls.length ≤ cap ∧ (∀ j, j < cap → (w.cell? ⟨g, j, none⟩).isSome = true ∧ w.frozen? ⟨g, j, none⟩ = false) ∧ (∀ j (hj : j < ls.length), w.cell? ⟨g, j, none⟩ = some (.string ls[j])) := by
  rcases h.2 with ⟨e, _⟩ | ⟨g', cap', cur, e, hb, hg, hnc, hcm, hcs, htake⟩
  · cases e
  · cases e
    have hsz : cur.toList.length = cap := by simpa using hcs
    rw [Nat.mul_one] at htake
    have hlen : (L5.svs (ls.drop (k + 1))).length = ls.length - (k + 1) := by simp [L5.svs]
    have hblk := setCells_blk (b := g) (tag := 9) (L5.svs (ls.drop (k + 1))) k w cur.toList (by simpa using hg) (by omega)
    refine ⟨own_row hb hblk (by omega) hcm (by rw [ov_length _ _ _ (by omega)]; exact hsz) ?_, setCells_grown g _ k w w (grown_refl w _), (Array.getElem?_eq_some_iff.1 hg).1, hnc, fun j hj => ⟨?_, frozen_of_row _ _ _ _ _ hg⟩, fun j hj => ?_⟩
    · unfold ov
      have e1 : cur.toList.take k = L5.svs (ls.take k) := by
        have : cur.toList.take k = (cur.toList.take ls.length).take k := by rw [List.take_take, Nat.min_eq_left (by omega)]
        rw [this, htake]
        simp [L5.svs, List.map_take]
      rw [e1]
      refine (List.take_left' ?_).trans ?_
      · rw [List.length_append, hlen]
        simp [L5.svs]
        omega
      · simp [L5.svs]
    · rw [cell_of_row _ _ _ _ _ _ hg, Array.getElem?_eq_getElem (by simpa using (by omega : j < cur.toList.length))]
      rfl
    · rw [cell_of_row _ _ _ _ _ _ hg]
      have : cur.toList[j]? = (L5.svs ls)[j]? := by rw [← htake, List.getElem?_take, if_pos hj]
      rw [← Array.getElem?_toList, this]
      simp [L5.svs, hj]

/-- Which one is taken next. -/
theorem pick_in (x : Int) {n : Nat} (h : 0 < n) : ∃ k : Nat, k < n ∧ ((x.tmod (n : Int)) + (n : Int)).tmod (n : Int) = (k : Int) ∧ -(n : Int) < x.tmod (n : Int) ∧ x.tmod (n : Int) < (n : Int) := by
  have h1 : x.tmod (n : Int) < (n : Int) := Int.tmod_lt_of_pos x (by omega)
  have h2 : -(n : Int) < x.tmod (n : Int) := by
    have := Int.tmod_lt_of_pos (-x) (show (0 : Int) < n by omega)
    rw [Int.neg_tmod] at this
    omega
  have h3 : (0 : Int) ≤ ((x.tmod (n : Int)) + (n : Int)).tmod (n : Int) := Int.tmod_nonneg _ (by omega)
  have h4 : ((x.tmod (n : Int)) + (n : Int)).tmod (n : Int) < (n : Int) := Int.tmod_lt_of_pos _ (by omega)
  exact ⟨(((x.tmod (n : Int)) + (n : Int)).tmod (n : Int)).toNat, by omega, by omega, h2, h1⟩

/-- A list of the call's own turns beside the trees. -/
theorem Two.poke {w0 : World} {s : Ar} {t u rt ht ru hu : Nat} {es fs : List ByteArray} {ps qs : List Nat} {w w' : World} (k : Two w0 s t u rt ht ru hu es fs ps qs w) {g : Nat} {cs : Array Value} (hg : w.heap[g]? = some (.cells cs 9 (0, 0))) (h0 : w0.heap.size ≤ g) (hgr : w.grownBy w' (some g)) : Two w0 s t u rt ht ru hu es fs ps qs w' := by
  have oth : ∀ q, q < w.heap.size → q ≠ g → w'.heap[q]? = w.heap[q]? := fun q hq hn => hgr.block q hq fun e => hn (Option.some.inj e)
  have lt : ∀ {q : Nat} {o : Obj}, w.heap[q]? = some o → q < w.heap.size := fun h => (Array.getElem?_eq_some_iff.1 h).1
  have ar : ArP s w' := L4.arSt.keep s w w' k.a.ar (fun q hq => oth q (L4.arSt.lt s w q k.a.ar hq) fun e => not_own k.a.ar hg (by decide) (by decide) (by decide) (e ▸ hq)) (fun q cs' hq => oth q (lt hq) (tag_ne hq hg (by decide)))
  exact ⟨⟨ar, k.a.ok, ⟨(oth t (lt k.a.tr.blk) (tag_ne k.a.tr.blk hg (by decide))).trans k.a.tr.blk⟩, k.a.tp⟩, ⟨ar, k.b.ok, ⟨(oth u (lt k.b.tr.blk) (tag_ne k.b.tr.blk hg (by decide))).trans k.b.tr.blk⟩, k.b.tp⟩, k.dj, k.used, k.q, k.fa, k.fb, k.own, k.tl, k.ul, k.ne, ⟨hgr.os.trans k.bel.os, hgr.tape.trans k.bel.tape, hgr.output.trans k.bel.output, Nat.le_trans k.bel.size hgr.size, fun q hq => (oth q (Nat.lt_of_lt_of_le hq k.bel.size) (by omega)).trans (k.bel.block q hq)⟩⟩

def lenV : Value → Nat
  | .slice _ n _ => n
  | _ => 0

/-- What is left, and what was put. -/
structure Lf (l : List ByteArray) (n : Nat) (fs ls : List ByteArray) : Prop where
  cnt : n + ls.length = l.length
  few : fs.length ≤ n
  put : ∀ x ∈ fs, okT x ∧ x ∈ l
  all : ∀ x ∈ l, okT x → x ∈ fs ∨ x ∈ ls
  sub : ∀ x ∈ ls, x ∈ l

theorem Lf.next {l : List ByteArray} {n : Nat} {fs ls : List ByteArray} (h : Lf l n fs ls) {k : Nat} (hk : k < ls.length) : Lf l (n + 1) (insF fs ls[k]) (ls.take k ++ ls.drop (k + 1)) := by
  have hsp : ls = ls.take k ++ ls[k] :: ls.drop (k + 1) := by rw [← List.drop_eq_getElem_cons hk, List.take_append_drop]
  refine ⟨?_, Nat.le_trans (insF_len _ _) (by have := h.few; omega), fun x hx => ?_, fun x hx ho => ?_, fun x hx => h.sub x ?_⟩
  · have := h.cnt
    simp
    omega
  · rcases (insF_mem _ _ x).1 hx with hx | ⟨rfl, ho⟩
    · exact h.put x hx
    · exact ⟨ho, h.sub _ (List.getElem_mem hk)⟩
  · rcases h.all x hx ho with hm | hm
    · exact Or.inl ((insF_mem _ _ x).2 (Or.inl hm))
    · rw [hsp] at hm
      rcases List.mem_append.1 hm with hm | hm
      · exact Or.inr (List.mem_append_left _ hm)
      · rcases List.mem_cons.1 hm with hm | hm
        · exact Or.inl ((insF_mem _ _ x).2 (Or.inr ⟨hm, by rw [← hm]; exact ho⟩))
        · exact Or.inr (List.mem_append_right _ hm)
  · rcases List.mem_append.1 hx with hx | hx
    · exact List.mem_of_mem_take hx
    · exact List.mem_of_mem_drop hx

set_option maxRecDepth 100000 in
set_option maxHeartbeats 2000000 in
theorem orders_walk {l : List ByteArray} {tn : List Int} {a b : Option Addr} {c d : Nat} {w : World} (h1 : L5.Rd w a c (L5.svs l)) (h2 : L5.Rd w b d (L5.ivs tn)) :
    Calls Try.prog 3 #[.slice a l.length c, .slice b tn.length d] w fun e w' => e = .returned (.bool true) ∧ Below w.heap.size w w' := by
  have H1 := thid h1
  have H2 := thid h2
  clear h1 h2
  go_enter Try.func3, Try.ntmps3
  go_wp2_with fail
  refine (awake_walk _).mono ?_
  rintro e w1 ⟨rfl, b1⟩
  have HB1 := thid b1
  clear b1
  by_cases hbig : 120 < l.length
  · have hbig' : (120 : Int) < (l.length : Int) := by omega
    go_wp2
    go_ret
    exact ⟨rfl, HB1.out⟩
  have hbig' : ¬ (120 : Int) < (l.length : Int) := by omega
  go_wp2_with fail
  refine (L4.new_ok 4000 (by decide) _).mono ?_
  rintro e w2 ⟨s, rfl, hF⟩
  have HF := thid hF
  have hok0 : s.abs.Ok := by
    rw [hF.2.1]
    exact ⟨by simp, by simp, by simp, by simp, by simp, by decide⟩
  have hl0 : 0 < s.abs.left := by rw [hF.2.1]; decide
  have HN := thid (tnew hF.1 hok0 hl0)
  clear hF
  unfold arV at HN ⊢
  go_wp2_with fail
  refine HN.out.mono ?_
  rintro e w3 ⟨rfl, s3, r3, t1, p1, g1, o1, n1⟩
  have hl3 : 0 < s3.abs.left := by
    have := g1.used
    have hq := g1.q
    rw [HF.out.2.1] at this hq
    unfold L4.Abs.left
    rw [hq]
    simp [L4.Abs.used] at this ⊢
    omega
  have HN2 := thid (tnew t1.ar t1.ok hl3)
  rw [p1] at HN2
  have HT1 := thid (And.intro t1 (And.intro g1 (And.intro o1 n1)))
  clear HN t1 g1 o1 n1 hok0 hl0 hl3
  unfold arV at HN2
  go_wp2_with fail
  refine HN2.out.mono ?_
  rintro e w4 ⟨rfl, s4, r4, t2, p2, g2, o2, n2⟩
  have HTW : Hid (Two w s4 w2.heap.size w3.heap.size r3 1 r4 1 [] [] [r3] [r4] w4) := by
    obtain ⟨f1, f2, f3, f4⟩ := HF.out
    exact news_two (tbelow_on HB1.out f3) (fun k hk => Nat.le_trans HB1.out.size (f4 k hk)) (by rw [f2]; rfl) (by rw [f2]) HT1.out.1 HT1.out.2.1 HT1.out.2.2.1 HT1.out.2.2.2 t2 (p2.trans p1.symm) g2 o2 n2
  clear HN2 t2 g2 o2 n2 HT1 HF p1 p2
  generalize w2.heap.size = t at *
  generalize w3.heap.size = u at *
  clear HB1
  go_wp2_with fail
  go_loopw [43] (fun i wr => ∃ j : Nat, j ≤ l.length ∧ i = .int .i64 (j : Int) ∧ ∃ (s5 : Ar) (rt ht : Nat) (es : List ByteArray) (ps : List Nat), Hid (Two w s5 t u rt ht r4 1 es [] ps [r4] wr ∧ es.length ≤ j ∧ ∀ x, x ∈ es ↔ okT x ∧ x ∈ l.take j)) (fun i _ => l.length - (intOf i).toNat)
  case atStart => exact ⟨0, Nat.zero_le _, rfl, s4, r3, 1, [], [r3], HTW.out, by simp, fun x => by simp⟩
  case round =>
    clear HTW
    obtain ⟨j, hj, rfl, s5, rt, ht, es, ps, HI⟩ := hrel
    obtain ⟨hT, hle, hmem⟩ := HI.out
    by_cases hlt : j < l.length
    · have hlt' : (j : Int) < (l.length : Int) := by omega
      obtain ⟨x1, o1, rfl, l1, c1⟩ := H1.out.str j hlt
      have e1 := (hT.bel.cell (p := ⟨x1, o1 + j, none⟩) l1).trans c1
      have m1 : x1 < wr.heap.size := Nat.lt_of_lt_of_le l1 hT.bel.size
      have HTK : Hid (l.take (j + 1) = l.take j ++ [l[j]]) := (List.take_append_getElem hlt).symm
      generalize l[j] = y at *
      have HIN := thid (hT.insert (k := y) (by omega) (by simp))
      clear hT
      go_wp2_with fail
      refine HIN.out.mono ?_
      rintro e w6 ⟨c6, rfl, s6, rt6, ht6, ps6, hT6, _⟩
      have HD : Hid (Two w s6 t u rt6 ht6 r4 1 (insF es y) [] ps6 [r4] w6 ∧ (insF es y).length ≤ j + 1 ∧ ∀ x, x ∈ insF es y ↔ okT x ∧ x ∈ l.take (j + 1)) := by
        refine ⟨hT6, Nat.le_trans (insF_len _ _) (by omega), fun x => ?_⟩
        rw [insF_mem, hmem x, HTK.out]
        simp only [List.mem_append, List.mem_singleton]
        constructor
        · rintro (⟨h1, h2⟩ | ⟨rfl, h1⟩)
          · exact ⟨h1, Or.inl h2⟩
          · exact ⟨h1, Or.inr rfl⟩
        · rintro ⟨h1, h2 | h2⟩
          · exact Or.inl ⟨h1, h2⟩
          · exact Or.inr ⟨h2, by rw [← h2]; exact h1⟩
      clear hT6 HIN HI hmem e1 m1
      go_wp2
      exact ⟨⟨j + 1, by omega, by go_num, s6, rt6, ht6, insF es y, ps6, HD⟩, by simp [intOf]; omega⟩
    · have hlt' : (l.length : Int) ≤ (j : Int) := by omega
      have hjl : j = l.length := by omega
      subst hjl
      rw [List.take_length] at hmem
      have HT5 := thid hT
      have HMM := thid hmem
      clear hT hmem HI
      have HB5 := thid (tbelow wr (.cells #[] 9))
      go_upto_region 15 with fail
      go_cut [13] from 51 to 53 (fun s13 wx => ∃ (A : Option Addr) (cap : Nat), s13 = .slice A l.length cap ∧ Hid (Two w s5 t u rt ht r4 1 es [] ps [r4] wx ∧ wx.ownsRow w.heap.size 9 1 (.slice A l.length cap) l.length (L5.svs l)))
      case first =>
        have hTb := HT5.out.on HB5.out
        have hzw := HT5.out.bel.size
        rcases a with _ | ⟨x1, o1, sp⟩
        · have hl0 : l = [] := by
            cases hl : l with
            | nil => rfl
            | cons y l' =>
              rw [hl] at H1
              obtain ⟨_, _, e, _⟩ := H1.out.str 0 (by simp)
              cases e
          subst hl0
          have HD : Hid (Two w s5 t u rt ht r4 1 es [] ps [r4] (wr.alloc (.cells #[] 9)) ∧ (wr.alloc (.cells #[] 9)).ownsRow w.heap.size 9 1 (.slice (some ⟨wr.heap.size, 0, none⟩) ([] : List ByteArray).length 0) ([] : List ByteArray).length (L5.svs [])) := ⟨hTb, owns_low (L5.owns_nil_lit wr 9) hzw⟩
          clear hTb
          go_wp2_with fail
          go_meet
          exact ⟨_, _, rfl, HD⟩
        · have hrd := H1.out.below (tbelow_on HT5.out.bel HB5.out)
          have HTB := thid hTb
          have HOW := thid (owns_low (L5.owns_nil_lit wr 9) hzw)
          have HRD := thid hrd
          clear hTb hrd
          go_wp2_with (first
            | (at_builtin
               revert HB5)
            | fail)
          intro HB5
          refine L5.append_row (z := .string ⟨#[]⟩) (by_ := 16) Try.underlying22 (by kernel_rfl) (by decide) rfl w.heap.size (Nat.le_trans hzw HB5.out.size) rfl _ _ rfl (.slice (some ⟨wr.heap.size, 0, none⟩) 0 0) 0 [] (L5.svs l) rfl HOW.out (by omega) l.length (by omega) ⟨x1, o1, sp⟩ c rfl (by simp [L5.svs]) (fun j v hj => by
              obtain ⟨b', o', e, _, hc⟩ := HRD.out.2.2 j v hj
              cases e
              rw [Addr.add_lit]
              exact hc) (L5.one_svs l) ?_
          intro v' w6 hown hg hat
          rw [Nat.zero_add, List.nil_append] at hown
          obtain ⟨A, cap, rfl⟩ := own_slice hown
          have HD : Hid (Two w s5 t u rt ht r4 1 es [] ps [r4] w6 ∧ w6.ownsRow w.heap.size 9 1 (.slice A l.length cap) l.length (L5.svs l)) := ⟨HTB.out.poke (heap_alloc_new wr (.cells #[] 9)) hzw hg, hown⟩
          clear hown hg hat HTB HOW HRD
          go_wp2_with fail
          go_meet
          exact ⟨A, cap, rfl, HD⟩
      case rest =>
      obtain ⟨A, cap, rfl, HL⟩ := hcut
      clear HT5 HB5
      go_wp2_with fail
      go_loopw [13, 14] (fun u13 u14 wr2 => ∃ n : Nat, u14 = .int .i64 (n : Int) ∧ ∃ (A2 : Option Addr) (cap2 : Nat) (ls : List ByteArray), u13 = .slice A2 ls.length cap2 ∧ ∃ (s6 : Ar) (ru hu : Nat) (fs : List ByteArray) (qs : List Nat), Hid (Two w s6 t u rt ht ru hu es fs ps qs wr2 ∧ wr2.ownsRow w.heap.size 9 1 (.slice A2 ls.length cap2) ls.length (L5.svs ls) ∧ Lf l n fs ls)) (fun u13 _ _ => lenV u13)
      case atStart => exact ⟨0, rfl, A, cap, l, rfl, s5, r4, 1, [], [r4], HL.out.1, HL.out.2, ⟨by simp, by simp, by simp, fun x hx _ => Or.inr hx, fun x hx => hx⟩⟩
      case round =>
        clear HL
        obtain ⟨n, rfl, A2, cap2, ls, rfl, s6, ru, hu, fs, qs, HI⟩ := hrel
        obtain ⟨hT, hO, hL⟩ := HI.out
        rcases Nat.eq_zero_or_pos ls.length with hz | hz
        · have hz' : ¬ ((0 : Int) < (ls.length : Int)) := by omega
          have hls : ls = [] := List.length_eq_zero_iff.1 hz
          subst hls
          have hef : es = fs := rising_ext es fs hT.a.tp.sub.rising.2 hT.b.tp.sub.rising.2 fun x => by
            rw [HMM.out x]
            constructor
            · rintro ⟨h1, h2⟩
              rcases hL.all x h2 h1 with h | h
              · exact h
              · cases h
            · exact fun h => hL.put x h
          subst hef
          have HT6 := thid hT
          have hlen : es.length ≤ 120 := by omega
          clear hT hO hL HI
          go_wp2_with fail
          refine (all_any HT6.out.a (by omega)).mono ?_
          rintro e w7 ⟨a7, c7, rfl, q7, b7⟩
          have HT7 := thid (HT6.out.on b7)
          have HQ7 := thid q7
          clear HT6 q7 b7
          go_wp2_with fail
          refine (all_any HT7.out.b (by omega)).mono ?_
          rintro e w8 ⟨a8, c8, rfl, q8, b8⟩
          have HT8 := thid (HT7.out.on b8)
          have HSM := thid (same_strs (L5.owns_rd_slice (L5.owns_below HQ7.out b8)) (L5.owns_rd_slice q8) (by omega))
          clear HT7 q8 b8 HQ7
          go_wp2_with fail
          refine HSM.out.mono ?_
          rintro e w9 ⟨rfl, b9⟩
          have HT9 := thid (HT8.out.on b9)
          clear HT8 HSM b9
          go_wp2_with fail
          refine (len_ok HT9.out.a.tr).mono ?_
          rintro e w10 ⟨rfl, b10⟩
          have HT10 := thid (HT9.out.on b10)
          clear HT9 b10
          go_wp2_with fail
          refine (len_ok HT10.out.b.tr).mono ?_
          rintro e w11 ⟨rfl, b11⟩
          have HB11 := thid (HT10.out.on b11).bel
          clear HT10 b11
          go_wp2
          go_ret
          exact ⟨rfl, HB11.out⟩
        · have hz' : (0 : Int) < (ls.length : Int) := by omega
          obtain ⟨g, rfl⟩ : ∃ g, A2 = some ⟨g, 0, none⟩ := by
            rcases hO.2 with ⟨e, e2⟩ | ⟨g', cap', cur, e, _⟩
            · omega
            · cases e; exact ⟨g', rfl⟩
          have HTT := thid hT
          have HOO := thid hO
          have HLL := thid hL
          have hlsl : ls.length ≤ 120 := by have := hL.cnt; omega
          clear hT hO hL HI
          go_upto_if 62 with fail
          go_cut [15] from 54 to 89 (fun s15 wx => ∃ k : Nat, k < ls.length ∧ s15 = .int .i64 (k : Int) ∧ wx = wr)
          case first =>
            by_cases hn : n < tn.length
            · have hn' : (n : Int) < (tn.length : Int) := by omega
              obtain ⟨x2, o2, rfl, l2, c2⟩ := H2.out.int n hn
              have e2 := (HTT.out.bel.cell (p := ⟨x2, o2 + n, none⟩) l2).trans c2
              have m2 : x2 < wr.heap.size := Nat.lt_of_lt_of_le l2 HTT.out.bel.size
              generalize tn[n] = tv at *
              obtain ⟨k, hk1, hk2, hk3, hk4⟩ := pick_in tv hz
              have hnz : ¬ ((ls.length : Int) = 0) := by omega
              go_wp2_with fail
              go_meet
              exact ⟨k, hk1, rfl, rfl⟩
            · have hn' : ¬ (n : Int) < (tn.length : Int) := by omega
              go_wp2_with fail
              go_meet
              exact ⟨0, hz, rfl, rfl⟩
          case rest =>
          obtain ⟨k, hk, rfl, rfl⟩ := hcut
          obtain ⟨_, _, glt, hcap, _, hcells⟩ := left_cut HOO.out hk
          have hck := hcells k hk
          have hcap' : (ls.length : Int) ≤ (cap2 : Int) := by omega
          have hk' : (k : Int) < (ls.length : Int) := by omega
          have HNX := thid (HLL.out.next hk)
          obtain ⟨y, hy⟩ : ∃ y, Hid (ls[k] = y) := ⟨ls[k], thid rfl⟩
          rw [hy.out] at hck HNX
          have hfs := HLL.out.few
          have hcn := HLL.out.cnt
          have hes : es.length ≤ 200 := by omega
          have HIN := thid (HTT.out.swap.insert (k := y) (by omega) hes)
          clear hcells
          go_wp2_with fail
          refine HIN.out.mono ?_
          rintro e w6 ⟨c6, rfl, s7, ru7, hu7, qs7, hT7, hon⟩
          have hgb := L4.owns_tag HOO.out (k := g) rfl
          obtain ⟨cs, hgb⟩ := hgb
          have g0 : w.heap.size ≤ g := (HOO.out.lt g rfl).1
          have hg6 : w6.heap[g]? = wc.heap[g]? := hon.block g glt fun x => by
            rcases x.2 with x | x
            · exact not_own HTT.out.a.ar hgb (by decide) (by decide) (by decide) x
            · exact tag_ne hgb HTT.out.b.tr.blk (by decide) x
          have HO6 := thid (L5.owns_of_block HOO.out (W' := w6.drew) fun q hq => by
            have : q = g := by simpa [Value.ownBlock] using hq.symm
            rw [this]; exact hg6)
          have HT7 := thid (hT7.swap.on (w' := w6.drew) (Below.refl _ _).drew)
          obtain ⟨hrow, hgrow, gl6, _, hspare, hcells⟩ := left_cut HO6.out hk
          have HRW := thid hrow
          have HGW := thid hgrow
          have hgb6 : w6.drew.heap[g]? = some (.cells cs 9 (0, 0)) := hg6.trans hgb
          have HT8 := thid (HT7.out.poke hgb6 g0 hgrow)
          clear hT7 hon HIN hrow hgrow hck
          have HSP := thid hspare
          have HCL := thid hcells
          clear hspare hcells
          have hwr : IntKind.i64.wrap ((k : Int) + 1) = (k : Int) + 1 := by rw [IntKind.wrap_i64]; omega
          have hp0 : (0 : Int) ≤ (k : Int) + 1 := by omega
          have hp1 : (k : Int) + 1 ≤ (ls.length : Int) := by omega
          have hp2 : ((k : Int) + 1).toNat = k + 1 := by omega
          have hinfo : (Try.prog.info? 9).map (fun i => i.size) = some 1 := by kernel_rfl
          obtain ⟨i0, hi0, hz1⟩ := Option.map_eq_some_iff.1 hinfo
          have hroom : k + (ls.length - (k + 1)) ≤ cap2 := by omega
          have hml : (L5.svs (ls.drop (k + 1))).length = (ls.length - (k + 1)) * 1 := by simp [L5.svs]
          have HON := thid (L5.one_svs (ls.drop (k + 1)))
          have hml2 := hml
          have HSR : Hid (∀ j, j < (L5.svs (ls.drop (k + 1))).length → (w6.drew.cell? ⟨g, 0 + k * 1 + j, none⟩).isSome = true ∧ w6.drew.frozen? ⟨g, 0 + k * 1 + j, none⟩ = false) := fun j hj => by
            rw [hml] at hj
            rw [show 0 + k * 1 + j = k + j by omega]
            exact HSP.out (k + j) (by omega)
          have hkc : k ≤ cap2 := by omega
          obtain ⟨A3, hA3, hnews⟩ : ∃ A3 : Addr, (if cap2 = k + 1 then some (⟨g, 0, none⟩ : Addr) else some ⟨g, k + 1, none⟩) = some A3 ∧ Hid (∀ j v, (L5.svs (ls.drop (k + 1)))[j]? = some v → w6.drew.cell? (A3.add j) = some v) := by
            by_cases hce : cap2 = k + 1
            · refine ⟨⟨g, 0, none⟩, by simp [hce], fun j v hj => ?_⟩
              rw [List.drop_of_length_le (by omega)] at hj
              simp [L5.svs] at hj
            · refine ⟨⟨g, k + 1, none⟩, by simp [hce], fun j v hj => ?_⟩
              have hjl : j < ls.length - (k + 1) := by
                have := (List.getElem?_eq_some_iff.1 hj).1
                rwa [hml, Nat.mul_one] at this
              rw [Addr.add_lit]
              have hc := HCL.out (k + 1 + j) (by omega)
              have hv : v = .string ls[k + 1 + j] := by
                simp only [L5.svs, List.getElem?_map, List.getElem?_drop] at hj
                rw [List.getElem?_eq_getElem (by omega)] at hj
                simpa using hj.symm
              rw [hv]
              exact hc
          clear hinfo hk' hcap' hz' hml2
          go_wp2_with fail
          go_region_law (refine step_append_room rfl (.tmp 84) (.tmp 88) 22 rfl 9 i0 1 Try.underlying22 hi0 hz1 g 0 k cap2 (by simp [Act.eval, Act.put]) A3 (ls.length - (k + 1)) (cap2 - (k + 1)) (L5.svs (ls.drop (k + 1))) (by simp [Act.eval, Act.put]) hml hnews.out HON.out hroom HSR.out ?_)
          have elen : k + (ls.length - (k + 1)) = (ls.take k ++ ls.drop (k + 1)).length := by simp; omega
          have elen2 : ls.length - 1 = (ls.take k ++ ls.drop (k + 1)).length := by simp; omega
          have HD : Hid (Two w s7 t u rt ht ru7 hu7 es (insF fs y) ps qs7 (w6.drew.setCells g k (L5.svs (ls.drop (k + 1)))) ∧ (w6.drew.setCells g k (L5.svs (ls.drop (k + 1)))).ownsRow w.heap.size 9 1 (.slice (some ⟨g, 0, none⟩) (ls.take k ++ ls.drop (k + 1)).length cap2) (ls.take k ++ ls.drop (k + 1)).length (L5.svs (ls.take k ++ ls.drop (k + 1))) ∧ Lf l (n + 1) (insF fs y) (ls.take k ++ ls.drop (k + 1))) := ⟨HT8.out, by rw [← elen2]; exact HRW.out, HNX.out⟩
          have hlt9 : (ls.take k ++ ls.drop (k + 1)).length < ls.length := by omega
          obtain ⟨ls', hls'⟩ : ∃ ls', Hid (ls.take k ++ ls.drop (k + 1) = ls') := ⟨_, thid rfl⟩
          rw [hls'.out] at elen HD hlt9
          rw [elen]
          clear elen2
          clear HT7 HT8 HRW HGW HNX HO6 HOO HTT HLL HSP HCL HSR hnews HON
          go_wp2
          exact ⟨⟨n + 1, by go_num, some ⟨g, 0, none⟩, cap2, ls', rfl, s7, ru7, hu7, insF fs y, qs7, HD⟩, hlt9⟩
end Go.Proofs.Ytmochjhhmahokab
