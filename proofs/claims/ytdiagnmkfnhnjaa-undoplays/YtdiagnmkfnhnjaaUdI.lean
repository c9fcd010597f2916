/-
  UndoAgain: its walk.
-/
import Derived.Deep.RegionHeldLaw
import Derived.Deep.CutRange
import Derived.Test.YtdiagnmkfnhnjaaUdH
namespace Go.Proofs.Ytdiagnmkfnhnjaa
open Go.RowKit Rw

/-- What stands in UndoAgain's loop: the entries and savepoints that there were, and the names told of them. -/
structure AgL (w0 : World) (nb lb l q : Nat) (name : ByteArray) (v s : Value) (L : List PE) (S1 : List Sv) (n : Nat) (sv : Value) (W : World) : Prop where
  ag : AgI w0 nb lb l q name v s L (S1 ++ [(name, L.length)]) W
  ln : L.length = n
  nb : n ≤ 120
  sb : S1.length ≤ 120
  sv : W.ownsRow 0 9 1 sv (S1.length + 1) (flat stC (S1 ++ [(name, L.length)]))

theorem again_back {w0 : World} {nb lb l q : Nat} {name : ByteArray} {v s v1 s1 : Value} {L L2 : List PE} {S1 S2 : List Sv} {n m : Nat} {sv : Value} {wr W2 W3 : World} {e : Ending} (h : AgL w0 nb lb l q name v s L S1 n sv wr) (a : AddO w0 nb lb l q name v1 s1 L L2 (S1 ++ [(name, L.length)]) S2 m wr W2) (hb : BackE w0.heap.size l q v1 s1 (L ++ L2) (S1 ++ [(name, L.length)] ++ S2) name W2 e W3) :
    ∃ at' ct v' s', e = .returned (.tuple #[.slice at' L2.length ct, .int .i64 0]) ∧ AgL w0 nb lb l q name v' s' L S1 n sv W3 := by
  obtain ⟨vt, v', s', he, O⟩ := backE_some (k := S1.length) (x := (name, L.length)) hb (by simp) rfl (fun j y hj hy => by
    rw [List.getElem?_append_right (by simp; omega)] at hy
    exact a.far y (List.mem_of_getElem? hy))
  have hL : (L ++ L2).take L.length = L := by simp
  have hS : (S1 ++ [(name, L.length)] ++ S2).take (S1.length + 1) = S1 ++ [(name, L.length)] := by
    rw [List.take_append_of_le_length (by simp), List.take_of_length_le (by simp)]
  have hd : ((L ++ L2).drop L.length) = L2 := by simp
  have lg := O.lg
  have tk := O.tak
  dsimp only at lg tk
  rw [hL, hS] at lg
  rw [hd] at tk
  obtain ⟨at', ct, rfl⟩ := owns_slice tk
  refine ⟨at', ct, v', s', he, a.ag.turn lg O.below O.keeps, h.ln, h.nb, h.sb, ?_⟩
  refine owns_below h.sv fun p hp => ?_
  obtain ⟨cur, hc⟩ := owns_block h.sv hp
  have h2 := a.kinds p _ cur hc (by decide) (by decide) (by decide)
  rw [hc]
  exact a.ag.lg.kept O.keeps h2 (by decide) (by decide) (by decide)

theorem AgL.on {w0 : World} {nb lb l q : Nat} {name : ByteArray} {v s : Value} {L : List PE} {S1 : List Sv} {n : Nat} {sv : Value} {W W' : World} (h : AgL w0 nb lb l q name v s L S1 n sv W) (hb : Below W.heap.size W W') : AgL w0 nb lb l q name v s L S1 n sv W' :=
  ⟨h.ag.on hb, h.ln, h.nb, h.sb, owns_on h.sv hb⟩

theorem own_names {W : World} {B : Nat} {a : Option Addr} {n c : Nat} {S : List Sv} (h : W.ownsRow B 9 1 (.slice a n c) n (flat stC S)) : SlG nmC 1 W a (S.map (·.1)) ∧ (S.map (·.1)).length = n := by
  rw [flat_nm] at h
  have := owns_slg nmC_len (by decide) h
  exact ⟨this.2.1, this.1⟩

set_option maxRecDepth 100000 in
set_option maxHeartbeats 4000000 in
theorem again_walk {l1 l2 : List OpD} {a1 a2 : Option Addr} {n1 c1 n2 c2 : Nat} {name : ByteArray} {w : World} (h1 : OpsIn w a1 l1) (hl1 : l1.length = n1) (h2 : OpsIn w a2 l2) (hl2 : l2.length = n2) (hnm : name.size ≤ maxLen) :
    Calls Try.prog 5 #[.slice a1 n1 c1, .slice a2 n2 c2, .string name] w fun e w' => e = .returned (.bool true) ∧ Below w.heap.size w w' := by
  have H1 := dhid h1
  have HL1 := dhid hl1
  have H2 := dhid h2
  have HL2 := dhid hl2
  have hnm' : name.size ≤ 9223372036854775807 := by unfold maxLen at hnm; omega
  clear h1 hl1 h2 hl2 hnm
  go_enter Try.func5, Try.ntmps5
  go_wp2_with fail
  refine (awake_walk _).mono ?_
  rintro e W1 ⟨rfl, B1⟩
  have HB1 : Hid (Below w.heap.size w W1) := (below_alloc w _).trans (B1.mono (by simp))
  have hb : W1.heap[w.heap.size]? = some (.cells #[.string name] 9 (0, 0)) := by rw [B1.block _ (by simp), heap_new]
  have HNB := dhid hb
  clear B1 hb
  have HG1 := dhid (great_walk (c := c1) (H1.out.below HB1.out) HL1.out)
  go_wp2_with fail
  refine HG1.out.mono ?_
  rintro e W2 ⟨g1, rfl, hg1, B2⟩
  have HNB2 := dhid ((B2.block _ (Array.getElem?_eq_some_iff.1 HNB.out).1).trans HNB.out)
  have HB2 := dhid (below_on HB1.out B2 HB1.out.size)
  clear HB1 HNB HG1 B2
  cases g1
  case true =>
    go_wp2
    go_ret
    exact ⟨rfl, HB2.out⟩
  have HGP1 := dhid (hg1 rfl)
  clear hg1
  have HG2 := dhid (great_walk (c := c2) (H2.out.below HB2.out) HL2.out)
  go_wp2_with fail
  refine HG2.out.mono ?_
  rintro e W3 ⟨g2, rfl, hg2, B3⟩
  have HNB3 := dhid ((B3.block _ (Array.getElem?_eq_some_iff.1 HNB2.out).1).trans HNB2.out)
  have HB3 := dhid (below_on HB2.out B3 HB2.out.size)
  clear HB2 HNB2 HG2 B3
  cases g2
  case true =>
    go_wp2
    go_ret
    exact ⟨rfl, HB3.out⟩
  have HGP2 := dhid (hg2 rfl)
  clear hg2
  have n0 : W3.cell? ⟨w.heap.size, 0, none⟩ = some (.string name) := cell_of_row _ _ _ _ _ _ HNB3.out
  have nl0 : w.heap.size < W3.heap.size := (Array.getElem?_eq_some_iff.1 HNB3.out).1
  by_cases h200 : 200 < name.size
  · have h200' : (200 : Int) < (name.size : Int) := by omega
    go_wp2
    go_ret
    exact ⟨rfl, HB3.out⟩
  have h200' : ¬ (200 : Int) < (name.size : Int) := by omega
  have h200d : decide ((200 : Int) < (name.size : Int)) = false := decide_eq_false h200'
  clear h200
  go_wp2_with fail
  refine (new_walk 100000 (by decide) _).mono ?_
  rintro e W4 ⟨rfl, rfl⟩
  have HL4 := dhid (lg_new HB3.out 100000)
  have HA5 : Hid (AgI w w.heap.size (W3.heap.size + 1) W3.heap.size 100000 name (.slice none 0 0) (.slice none 0 0) [] [] ((W3.alloc (.cells #[.int .i64 ((100000 : Nat) : Int), .slice none 0 0, .slice none 0 0] 64)).alloc (.cells #[.pointer (some ⟨W3.heap.size, 0, none⟩)] 24))) := by
    refine ⟨HL4.out.on (below_alloc _ _), ?_, heap_new' _ _ (by simp), (HB3.out.alloc HB3.out.size _).alloc (by have := HB3.out.size; simp; omega) _⟩
    rw [Below.heap_alloc _ _ _ (by simp; omega), Below.heap_alloc _ _ _ nl0]
    exact HNB3.out
  have HC1 := dhid (clos_walk (c := c1) HA5.out H1.out HL1.out HGP1.out (by simp) (by simp) (by decide))
  clear HL4 HNB3 HB3 n0 HA5
  go_wp2_with fail
  refine HC1.out.mono ?_
  rintro e W6 ⟨rfl, v6, s6, L2, S2, A6⟩
  clear HC1
  have HA6 := dhid A6.ag
  have hL2 : L2.length ≤ 120 := Nat.le_trans A6.l2 (by rw [← HL1.out]; exact HGP1.out.1)
  have hS2 : S2.length ≤ 120 := Nat.le_trans A6.s2 (by rw [← HL1.out]; exact HGP1.out.1)
  clear A6
  rw [List.nil_append, List.nil_append] at HA6
  generalize W3.heap.size = l at *
  generalize l + 1 = lb at *
  obtain ⟨f0, f1, fl0, fl1⟩ := HA6.out.facts
  have HSV := dhid (save_walk (name := name) HA6.out.lg (by omega))
  go_wp2_with fail
  refine HSV.out.mono ?_
  rintro e W7 ⟨rfl, s7, L7, B7, K7⟩
  have HA7 := dhid (HA6.out.turn L7 B7 K7)
  clear HSV L7 B7 K7 HA6 f0 f1 fl0 fl1
  obtain ⟨f0, f1, fl0, fl1⟩ := HA7.out.facts
  have KS : Hid (∀ W, Below W7.heap.size W7 W → W.cell? ⟨lb, 0, none⟩ = some (.pointer (some ⟨l, 0, none⟩))) := fun W hW => (HA7.out.on hW).facts.2.1
  obtain ⟨a6, c6, e6⟩ := owns_slice HA7.out.lg.own
  subst e6
  have HLN : Hid (∀ W, Below W7.heap.size W7 W → Calls Try.prog 19 #[.pointer (some ⟨l, 0, none⟩)] W fun e w' => e = .returned (.int .i64 (L2.length : Int)) ∧ w' = W) := fun W hW => len_walk (HA7.out.on hW).lg.facts.2.1
  have HSA : Hid (∀ W, Below W7.heap.size W7 W → Calls Try.prog 22 #[.pointer (some ⟨l, 0, none⟩)] W fun e w' => ∃ v', e = .returned v' ∧ AgL w w.heap.size lb l 100000 name (.slice a6 L2.length c6) s7 L2 S2 L2.length v' w' ∧ Below W7.heap.size W7 w') := fun W hW => by
    refine (saves_walk (HA7.out.on hW).lg (by simp; omega)).mono ?_
    rintro e w' ⟨v', rfl, o', b'⟩
    refine ⟨v', rfl, ⟨(HA7.out.on hW).on b', rfl, hL2, hS2, owns_mono (by simpa using o') fun _ _ => Nat.zero_le _⟩, below_on hW b' hW.size⟩
  clear HA7
  obtain ⟨n, HN⟩ : ∃ n, Hid (L2.length = n) := ⟨_, rfl⟩
  rw [HN.out] at hL2 HLN HSA
  go_upto_region 11 with fail
  go_cut [10, 11] from 42 to 45 (fun s10 s11 wx => s10 = .int .i64 (n : Int) ∧ ∃ v s, Hid (AgL w w.heap.size lb l 100000 name v s L2 S2 n s11 wx))
  case first =>
    go_region_held_law (fun w' => w'.cell? ⟨lb, 0, none⟩ = some (.pointer (some ⟨l, 0, none⟩))) (first | assumption | exact KS.out _ (by repeat (first | exact Below.refl _ _ | refine Below.drew ?_)))
      (first
        | (go_at_call 19; with_reducible refine (HLN.out _ ?_).mono ?_
           · repeat (first | exact Below.refl _ _ | refine Below.drew ?_)
           rintro e W8 ⟨rfl, e8⟩
           subst e8
           clear HLN)
        | (go_at_call 22; with_reducible refine (HSA.out _ ?_).mono ?_
           · repeat (first | exact Below.refl _ _ | refine Below.drew ?_)
           rintro e W9 ⟨v9, rfl, A9, B9⟩
           have HA9 := dhid A9
           have KS9 := KS.out W9 B9
           clear A9 B9 HSA))
    all_goals
      go_simp
      go_wp2_with fail
      go_meet
      case rel => exact ⟨rfl, _, _, HA9⟩
  case rest =>
  clear KS HLN HSA f0 f1 fl0 fl1
  obtain ⟨hs10, v8, s8, HA8⟩ := hcut
  subst hs10
  go_wp2
  go_loopw [12] (fun i wr => ∃ (j : Nat) (v s : Value), j ≤ 3 ∧ i = .int .i64 (j : Int) ∧ Hid (AgL w w.heap.size lb l 100000 name v s L2 S2 n u11 wr)) (fun i _ => 3 - (intOf i).toNat)
  case atStart => exact ⟨0, v8, s8, by omega, rfl, HA8⟩
  case round =>
    obtain ⟨j, v, s, hj, rfl, HI⟩ := hrel
    have hn120 : n ≤ 120 := HI.out.nb
    obtain ⟨f0, f1, fl0, fl1⟩ := HI.out.ag.facts
    by_cases hlt : j < 3
    · have hlt' : (j : Int) < 3 := by omega
      have HC := dhid (clos_walk (c := c2) HI.out.ag H2.out HL2.out HGP2.out (by rw [HI.out.ln]; omega) (by have := HI.out.sb; simp; omega) (by decide))
      go_wp2_with fail
      refine HC.out.mono ?_
      rintro e W2 ⟨rfl, v2, s2, L3, S3, A2⟩
      have HA2 := dhid A2
      have hL3 : L3.length ≤ 120 := Nat.le_trans A2.l2 (by rw [← HL2.out]; exact HGP2.out.1)
      have hS3 : S3.length ≤ 120 := Nat.le_trans A2.s2 (by rw [← HL2.out]; exact HGP2.out.1)
      have HBW : Hid (Calls Try.prog 13 #[.pointer (some ⟨l, 0, none⟩), .string name] W2 fun e w' => ∃ at' ct v' s', e = .returned (.tuple #[.slice at' L3.length ct, .int .i64 0]) ∧ AgL w w.heap.size lb l 100000 name v' s' L2 S2 n u11 w') := by
        refine (back_walk (name := name) A2.ag.lg (by simp; have := HI.out.ln; omega) (by simp; have := HI.out.sb; omega)).mono ?_
        intro e w' he
        exact again_back HI.out A2 he
      obtain ⟨a2', c2', e2⟩ := owns_slice A2.ag.lg.own
      subst e2
      have x1 := A2.ag.lg.facts.2.1
      rw [List.length_append, HI.out.ln] at x1
      have HLW : Hid (Calls Try.prog 19 #[.pointer (some ⟨l, 0, none⟩)] W2 fun e w' => e = .returned (.int .i64 ((n : Int) + (L3.length : Int))) ∧ w' = W2) := by
        refine (len_walk x1).mono ?_
        rintro e w' ⟨rfl, rfl⟩
        exact ⟨ret_int (by omega), rfl⟩
      clear f0 f1 fl0 fl1 HC A2 x1
      obtain ⟨f0, f1, fl0, fl1⟩ := HA2.out.ag.facts
      generalize L3.length = m3 at *
      have hsub : (n : Int) + (m3 : Int) - (n : Int) = (m3 : Int) := by omega
      have hmm : ((m3 : Int) == (m3 : Int)) = true := beq_self_eq_true _
      have hnn : ((n : Int) == (n : Int)) = true := beq_self_eq_true _
      go_wp2_with fail
      refine HLW.out.mono ?_
      rintro e W2' ⟨rfl, rfl⟩
      go_wp2_with fail
      refine HBW.out.mono ?_
      rintro e W3 ⟨at', ct, v3, s3, rfl, A3⟩
      have HA3 := dhid A3
      clear f0 f1 fl0 fl1 HBW HLW HA2 A3
      obtain ⟨f0, f1, fl0, fl1⟩ := HA3.out.ag.facts
      obtain ⟨a3', c3', e3⟩ := owns_slice HA3.out.ag.lg.own
      subst e3
      have x1 := HA3.out.ag.lg.facts.2.1
      rw [HA3.out.ln] at x1
      have HSW := dhid (saves_walk HA3.out.ag.lg (by simp; have := HA3.out.sb; omega))
      go_wp2_with fail
      refine (len_walk x1).mono ?_
      rintro e W3' ⟨rfl, rfl⟩
      go_wp2_with fail
      refine HSW.out.mono ?_
      rintro e W4 ⟨v4, rfl, O4, B4⟩
      obtain ⟨a4, c4, rfl⟩ := owns_slice O4
      have HA4 := dhid (HA3.out.on B4)
      obtain ⟨a5, c5, e5⟩ := owns_slice HA4.out.sv
      subst e5
      have o5 := own_names HA4.out.sv
      have o4 := own_names O4
      rw [List.length_append, List.length_singleton] at o4
      have HMW := dhid (sames_walk (c := c4) (c' := c5) o4.1 o5.1 o4.2 (by have := HA4.out.sb; omega))
      clear f0 f1 fl0 fl1 x1 HSW O4 o4 o5 B4 HA3
      go_wp2_with fail
      refine HMW.out.mono ?_
      rintro e W5 ⟨rfl, q5, rfl⟩
      have HA5 := dhid (HA4.out.on (below_drewN (Below.refl _ _) q5))
      clear HMW HA4
      go_wp2
      exact ⟨⟨j + 1, _, _, hlt, by go_num, HA5⟩, by simp [intOf]; omega⟩
    · have hj3 : j = 3 := by omega
      subst hj3
      have HTW := dhid (to_walk (n := 0) (m := 0) HI.out.ag.lg (by decide) (by rw [HI.out.ln]; omega) (by simp; have := HI.out.sb; omega))
      have hnn : ((n : Int) == (n : Int)) = true := beq_self_eq_true _
      go_wp2_with fail
      refine HTW.out.mono ?_
      rintro e W2 ⟨vt, v2, s2, rfl, T2⟩
      have tk := T2.tak
      rw [List.drop_zero, HI.out.ln] at tk
      obtain ⟨a5, c5, e5⟩ := owns_slice tk
      subst e5
      have HB := dhid (HI.out.ag.below.trans T2.below)
      clear f0 f1 fl0 fl1 T2 tk HTW HI
      go_wp2
      go_ret
      exact ⟨rfl, HB.out⟩
end Go.Proofs.Ytdiagnmkfnhnjaa
