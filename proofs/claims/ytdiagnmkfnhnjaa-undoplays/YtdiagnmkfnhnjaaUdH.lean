/-
  Undo: great of the law, the document's Same of texts, the closure of UndoAgain.
-/
import Derived.Deep.RegionHeldLaw
import Derived.Test.YtdiagnmkfnhnjaaUdG
namespace Go.Proofs.Ytdiagnmkfnhnjaa
open Go.RowKit Rw

def SmallO (x : OpD) : Prop := x.s.size ≤ 200 ∧ x.e.1.t.size ≤ 200 ∧ x.e.1.ol ≤ 20 ∧ x.e.1.nl ≤ 20
def GreatP (l : List OpD) : Prop := l.length ≤ 120 ∧ ∀ x ∈ l, SmallO x

/-- What great answers. -/
def GreatO (l : List OpD) (w : World) (e : Ending) (w' : World) : Prop := ∃ b, e = .returned (.bool b) ∧ (b = false → GreatP l) ∧ Below w.heap.size w w'

theorem GreatO.yes {l : List OpD} {w w' : World} (h : Below w.heap.size w w') : GreatO l w (.returned (.bool true)) w' := ⟨_, rfl, fun h => (by cases h), h⟩

set_option maxRecDepth 100000 in
set_option maxHeartbeats 1000000 in
theorem great_walk {l : List OpD} {a : Option Addr} {n c : Nat} {w : World} (h : OpsIn w a l) (hl : l.length = n) : Calls Try.prog 8 #[.slice a n c] w (GreatO l w) := by
  have HH := dhid h
  have HL := dhid hl
  have hml : n ≤ 9223372036854775807 := by have := h.len; unfold maxLen at this; omega
  clear h hl
  by_cases h80 : n ≤ 120
  · have h80' : ¬ (120 : Int) < (n : Int) := by omega
    go_enter Try.func8, Try.ntmps8
    go_wp2
    go_loopw [10] (fun i wr => ∃ j : Nat, j ≤ n ∧ i = .int .i64 (j : Int) ∧ Hid (Below w.heap.size w wr ∧ ∀ k x, k < j → l[k]? = some x → SmallO x)) (fun i _ => n - (intOf i).toNat)
    case atStart => exact ⟨0, Nat.zero_le _, rfl, Below.refl _ _, fun k x hk => by omega⟩
    case round =>
      obtain ⟨j, hj, rfl, HB⟩ := hrel
      by_cases hlt : j < n
      · obtain ⟨b, o, x, rfl, hb, hx, hok, c0, c1, c2, c3, c4, c5, c6, c7⟩ := (HH.out.below HB.out.1).at (j := j) (by rw [HL.out]; exact hlt)
        have HX := dhid hx
        have ho1 : x.e.1.ol ≤ 9223372036854775807 := by have := hok.e.ob; unfold maxLen at this; omega
        have ho2 : x.e.1.nl ≤ 9223372036854775807 := by have := hok.e.nb; unfold maxLen at this; omega
        have ho3 : x.e.1.t.size ≤ 9223372036854775807 := by have := hok.e.tb; unfold maxLen at this; omega
        have ho4 : x.s.size ≤ 9223372036854775807 := by have := hok.s; unfold maxLen at this; omega
        have HB2 : Hid (∀ o, Below w.heap.size w (wr.alloc o)) := fun o => HB.out.1.alloc HB.out.1.size o
        have HN : Hid (SmallO x → ∀ k y, k < j + 1 → l[k]? = some y → SmallO y) := fun hs k y hk hy => by
          by_cases e : k = j
          · subst e; rw [HX.out] at hy; cases hy; exact hs
          · exact HB.out.2 k y (by omega) hy
        clear hx hok
        have HS : Hid (x.s.size ≤ 200 → x.e.1.t.size ≤ 200 → x.e.1.ol ≤ 20 → x.e.1.nl ≤ 20 → SmallO x) := fun h1 h2 h3 h4 => ⟨h1, h2, h3, h4⟩
        obtain ⟨xk, xn, xs, ⟨⟨ek, eid, et, oa, ol, oc, na, nl, nc⟩, ey⟩⟩ := x
        dsimp only at *
        by_cases g1 : xs.size ≤ 200
        · have g1' : ¬ (200 : Int) < (xs.size : Int) := by omega
          by_cases g2 : et.size ≤ 200
          · have g2' : ¬ (200 : Int) < (et.size : Int) := by omega
            by_cases g3 : ol ≤ 20
            · have g3' : ¬ (20 : Int) < (ol : Int) := by omega
              by_cases g4 : nl ≤ 20
              · have g4' : ¬ (20 : Int) < (nl : Int) := by omega
                go_wp2
                exact ⟨⟨j + 1, hlt, by go_num, HB2.out _, HN.out (HS.out g1 g2 g3 g4)⟩, by simp [intOf]; omega⟩
              · have g4' : (20 : Int) < (nl : Int) := by omega
                go_wp2
                go_ret
                exact GreatO.yes (HB2.out _)
            · have g3' : (20 : Int) < (ol : Int) := by omega
              go_wp2
              go_ret
              exact GreatO.yes (HB2.out _)
          · have g2' : (200 : Int) < (et.size : Int) := by omega
            go_wp2
            go_ret
            exact GreatO.yes (HB2.out _)
        · have g1' : (200 : Int) < (xs.size : Int) := by omega
          go_wp2
          go_ret
          exact GreatO.yes (HB2.out _)
      · have hjn : j = n := by omega
        subst hjn
        go_wp2
        go_ret
        refine ⟨false, rfl, fun _ => ⟨by rw [HL.out]; exact h80, fun x hx => ?_⟩, HB.out.1⟩
        obtain ⟨k, hk⟩ := List.getElem?_of_mem hx
        exact HB.out.2 k x (by have := (List.getElem?_eq_some_iff.1 hk).1; rw [HL.out] at this; exact this) hk
  · have h80' : (120 : Int) < (n : Int) := by omega
    go_enter Try.func8, Try.ntmps8
    go_wp2
    go_ret
    exact GreatO.yes (Below.refl _ _)

def nmC (b : ByteArray) : List Value := [.string b]
theorem nmC_len (b : ByteArray) : (nmC b).length = 1 := rfl
theorem flat_nm (S : List Sv) : flat stC S = flat nmC (S.map (·.1)) := by
  induction S with
  | nil => rfl
  | cons x S ih => rw [List.map_cons, flat_cons, flat_cons, ih]; rfl

set_option maxRecDepth 100000 in
set_option maxHeartbeats 1000000 in
/-- Two lists of the same texts are alike. -/
theorem sames_walk {N : List ByteArray} {a a' : Option Addr} {n c c' : Nat} {w : World} (h : SlG nmC 1 w a N) (h' : SlG nmC 1 w a' N) (hn : N.length = n) (hb : n ≤ 1000000) :
    Calls Try.prog 21 #[.slice a n c, .slice a' n c'] w fun e w' => e = .returned (.bool true) ∧ ∃ q, w' = w.drewN q := by
  have H := dhid h
  have H' := dhid h'
  have HN := dhid hn
  have hnn : ((n : Int) == (n : Int)) = true := beq_self_eq_true _
  clear h h' hn
  go_enter Try.func21, Try.ntmps21
  go_wp2
  go_loopw [5] (fun i wr => ∃ j k : Nat, j ≤ n ∧ i = .int .i64 j ∧ wr = w.drewN k) (fun i _ => n - (intOf i).toNat)
  case atStart => exact ⟨0, 0, Nat.zero_le _, rfl, rfl⟩
  case round =>
    obtain ⟨j, k, hj, rfl, rfl⟩ := hrel
    by_cases hlt : j < n
    · obtain ⟨b, o, x, rfl, hb, hx, hc⟩ := SlG.at H.out (j := j) (by rw [HN.out]; exact hlt)
      obtain ⟨b', o', x', rfl, hb', hx', hc'⟩ := SlG.at H'.out (j := j) (by rw [HN.out]; exact hlt)
      rw [hx] at hx'
      cases hx'
      have d : w.cell? ⟨b, o + j, none⟩ = some (.string x) := by have := hc 0 _ rfl; rwa [Nat.mul_one, Nat.add_zero] at this
      have d' : w.cell? ⟨b', o' + j, none⟩ = some (.string x) := by have := hc' 0 _ rfl; rwa [Nat.mul_one, Nat.add_zero] at this
      have hxx : (x.toList == x.toList) = true := beq_self_eq_true _
      clear hc hc' hx H H'
      go_wp2
      go_quiet (fail)
      go_wp2
      exact ⟨⟨j + 1, _, hlt, by go_num, rfl⟩, by simp [intOf]; omega⟩
    · have hjn : j = n := by omega
      subst hjn
      go_wp2
      go_ret
      exact ⟨rfl, _, rfl⟩

/-- What stands in UndoAgain: the log, the boxes of its two variables. -/
structure AgI (w0 : World) (nb lb l q : Nat) (name : ByteArray) (v s : Value) (L : List PE) (S : List Sv) (W : World) : Prop where
  lg : Lg w0.heap.size l q v s L S W
  nb : W.heap[nb]? = some (.cells #[.string name] 9 (0, 0))
  lb : W.heap[lb]? = some (.cells #[.pointer (some ⟨l, 0, none⟩)] 24 (0, 0))
  below : Below w0.heap.size w0 W

theorem AgI.on {w0 : World} {nb lb l q : Nat} {name : ByteArray} {v s : Value} {L : List PE} {S : List Sv} {W W' : World} (h : AgI w0 nb lb l q name v s L S W) (hb : Below W.heap.size W W') : AgI w0 nb lb l q name v s L S W' :=
  ⟨h.lg.on hb, (hb.block _ (Array.getElem?_eq_some_iff.1 h.nb).1).trans h.nb, (hb.block _ (Array.getElem?_eq_some_iff.1 h.lb).1).trans h.lb, below_on h.below hb h.below.size⟩

theorem AgI.turn {w0 : World} {nb lb l q : Nat} {name : ByteArray} {v s v' s' : Value} {L L' : List PE} {S S' : List Sv} {W W' : World} (h : AgI w0 nb lb l q name v s L S W) (hl : Lg w0.heap.size l q v' s' L' S' W') (hb : Below w0.heap.size W W') (hk : Keeps l v s W W') : AgI w0 nb lb l q name v' s' L' S' W' :=
  ⟨hl, h.lg.kept hk h.nb (by decide) (by decide) (by decide), h.lg.kept hk h.lb (by decide) (by decide) (by decide), h.below.trans hb⟩

theorem AgI.facts {w0 : World} {nb lb l q : Nat} {name : ByteArray} {v s : Value} {L : List PE} {S : List Sv} {W : World} (h : AgI w0 nb lb l q name v s L S W) : W.cell? ⟨nb, 0, none⟩ = some (.string name) ∧ W.cell? ⟨lb, 0, none⟩ = some (.pointer (some ⟨l, 0, none⟩)) ∧ nb < W.heap.size ∧ lb < W.heap.size :=
  ⟨cell_of_row _ _ _ _ _ _ h.nb, cell_of_row _ _ _ _ _ _ h.lb, (Array.getElem?_eq_some_iff.1 h.nb).1, (Array.getElem?_eq_some_iff.1 h.lb).1⟩

/-- What the closure has added. -/
structure AddO (w0 : World) (nb lb l q : Nat) (name : ByteArray) (v s : Value) (L0 L2 : List PE) (S0 S2 : List Sv) (n : Nat) (W0 W : World) : Prop where
  ag : AgI w0 nb lb l q name v s (L0 ++ L2) (S0 ++ S2) W
  far : ∀ x ∈ S2, x.1 ≠ name
  l2 : L2.length ≤ n
  s2 : S2.length ≤ n
  kinds : ∀ (g e : Nat) (cur : Array Value), W0.heap[g]? = some (Obj.cells cur e (0, 0)) → e ≠ 64 → e ≠ 35 → e ≠ 69 → W.heap[g]? = some (Obj.cells cur e (0, 0))

/-- An op in its variable. -/
def BoxO (W : World) (b : Nat) (x : OpD) : Prop := W.heap[b]? = some (.cells #[.int .i64 x.k, .int .i64 x.n, .string x.s, .int .i64 x.e.1.k, .int .i64 x.e.1.id, .string x.e.1.t, .slice x.e.1.oa x.e.1.ol x.e.1.oc, .slice x.e.1.na x.e.1.nl x.e.1.nc] 37 (0, 0))

theorem BoxO.facts {W : World} {b : Nat} {x : OpD} (h : BoxO W b x) : W.cell? ⟨b, 0, none⟩ = some (.int .i64 x.k) ∧ W.cell? ⟨b, 1, none⟩ = some (.int .i64 x.n) ∧ W.cell? ⟨b, 2, none⟩ = some (.string x.s) ∧ W.cell? ⟨b, 3, none⟩ = some (.int .i64 x.e.1.k) ∧ W.cell? ⟨b, 4, none⟩ = some (.int .i64 x.e.1.id) ∧ W.cell? ⟨b, 5, none⟩ = some (.string x.e.1.t) ∧ W.cell? ⟨b, 6, none⟩ = some (.slice x.e.1.oa x.e.1.ol x.e.1.oc) ∧ W.cell? ⟨b, 7, none⟩ = some (.slice x.e.1.na x.e.1.nl x.e.1.nc) ∧ b < W.heap.size :=
  ⟨cell_of_row _ _ _ _ _ _ h, cell_of_row _ _ _ _ _ _ h, cell_of_row _ _ _ _ _ _ h, cell_of_row _ _ _ _ _ _ h, cell_of_row _ _ _ _ _ _ h, cell_of_row _ _ _ _ _ _ h, cell_of_row _ _ _ _ _ _ h, cell_of_row _ _ _ _ _ _ h, (Array.getElem?_eq_some_iff.1 h).1⟩

theorem addO_add {w0 : World} {nb lb l q : Nat} {name : ByteArray} {v s v' : Value} {L0 L2 : List PE} {S0 S2 : List Sv} {n : Nat} {r' : RE} {c : En} {W0 wr U W : World} (h : AddO w0 nb lb l q name v s L0 L2 S0 S2 n W0 wr) (bU : Below wr.heap.size wr U) (hl : Lg w0.heap.size l q v' s (L0 ++ L2 ++ [(r', c)]) (S0 ++ S2) W) (hb : Below w0.heap.size U W) (hk : Keeps l v s U W) : AddO w0 nb lb l q name v' s L0 (L2 ++ [(r', c)]) S0 S2 (n + 1) W0 W := by
  have hU := h.ag.on bU
  refine ⟨by rw [← List.append_assoc]; exact hU.turn hl hb hk, h.far, by have := h.l2; simp; omega, by have := h.s2; omega, fun g e cur hg h1 h2 h3 => ?_⟩
  have g1 := h.kinds g e cur hg h1 h2 h3
  have g2 := (bU.block g (Array.getElem?_eq_some_iff.1 g1).1).trans g1
  exact hU.lg.kept hk g2 h1 h2 h3

theorem addO_save {w0 : World} {nb lb l q : Nat} {name nm : ByteArray} {v s s' : Value} {L0 L2 : List PE} {S0 S2 : List Sv} {n m : Nat} {W0 wr U W : World} (h : AddO w0 nb lb l q name v s L0 L2 S0 S2 n W0 wr) (bU : Below wr.heap.size wr U) (hl : Lg w0.heap.size l q v s' (L0 ++ L2) (S0 ++ S2 ++ [(nm, m)]) W) (hb : Below w0.heap.size U W) (hk : Keeps l v s U W) (hn : nm ≠ name) : AddO w0 nb lb l q name v s' L0 L2 S0 (S2 ++ [(nm, m)]) (n + 1) W0 W := by
  have hU := h.ag.on bU
  refine ⟨by rw [← List.append_assoc]; exact hU.turn hl hb hk, fun x hx => ?_, by have := h.l2; omega, by have := h.s2; simp; omega, fun g e cur hg h1 h2 h3 => ?_⟩
  · rcases List.mem_append.1 hx with hx | hx
    · exact h.far x hx
    · simp at hx; subst hx; exact hn
  have g1 := h.kinds g e cur hg h1 h2 h3
  have g2 := (bU.block g (Array.getElem?_eq_some_iff.1 g1).1).trans g1
  exact hU.lg.kept hk g2 h1 h2 h3

set_option maxRecDepth 100000 in
set_option maxHeartbeats 2000000 in
theorem clos_walk {w0 : World} {l' : List OpD} {a : Option Addr} {n c nb lb l q : Nat} {name : ByteArray} {v s : Value} {L : List PE} {S : List Sv} {w : World} (h : AgI w0 nb lb l q name v s L S w) (ho : OpsIn w0 a l') (hl : l'.length = n) (hg : GreatP l') (hL : L.length ≤ 1000) (hS : S.length ≤ 1000) (hq : 5000 ≤ q) :
    Calls Try.prog 24 #[.slice a n c, .pointer (some ⟨nb, 0, none⟩), .pointer (some ⟨lb, 0, none⟩)] w fun e w' => e = .returned (.tuple #[]) ∧ ∃ v' s' L2 S2, AddO w0 nb lb l q name v' s' L L2 S S2 n w w' := by
  have HH := dhid h
  have HO := dhid ho
  have HLn := dhid hl
  have HG := dhid hg.2
  have hn120 : n ≤ 120 := by rw [← hl]; exact hg.1
  have HLL := dhid hL
  have HSS := dhid hS
  have HQ := dhid hq
  clear h ho hl hg hL hS hq
  go_enter Try.func24, Try.ntmps24
  go_wp2
  go_loopw [8] (fun i wr => ∃ (j : Nat) (v' s' : Value) (L2 : List PE) (S2 : List Sv), j ≤ n ∧ i = .int .i64 (j : Int) ∧ Hid (AddO w0 nb lb l q name v' s' L L2 S S2 j w wr)) (fun i _ => n - (intOf i).toNat)
  case atStart => exact ⟨0, v, s, [], [], Nat.zero_le _, rfl, by simpa using HH.out, fun _ h => (by cases h), Nat.le_refl _, Nat.le_refl _, fun _ _ _ h _ _ _ => h⟩
  case round =>
    obtain ⟨j, v', s', L2, S2, hj, rfl, HI⟩ := hrel
    by_cases hlt : j < n
    · obtain ⟨b, o, x, rfl, hb, hx, hok, c0, c1, c2, c3, c4, c5, c6, c7⟩ := (HO.out.below HI.out.ag.below).at (j := j) (by rw [HLn.out]; exact hlt)
      have hsm := HG.out x (List.mem_of_getElem? hx)
      have HME : Hid (∀ W, Below wr.heap.size wr W → MeansE W x.e.1 x.e.2) := fun W hW => (hok.e.below hW).small hsm.2.2.1 hsm.2.2.2
      have HADD : Hid (∀ U, Below wr.heap.size wr U → Calls Try.prog 9 #[.pointer (some ⟨l, 0, none⟩), .agg #[.int .i64 x.e.1.k, .int .i64 x.e.1.id, .string x.e.1.t, .slice x.e.1.oa x.e.1.ol x.e.1.oc, .slice x.e.1.na x.e.1.nl x.e.1.nc]] U fun e w' => e = .returned (.int .i64 0) ∧ ∃ v2 L3, AddO w0 nb lb l q name v2 s' L L3 S S2 (j + 1) w w') := fun U hU => by
        have hlen : (L ++ L2).length ≤ 1120 := by have h1 := HI.out.l2; have h2 := HLL.out; simp; omega
        refine (add_walk (r := x.e.1) (HI.out.ag.on hU).lg (HME.out U hU) (by omega) (by have := HQ.out; omega)).mono ?_
        rintro e w' ⟨rfl, r', v2, h1, h2, h3, -⟩
        exact ⟨rfl, v2, _, addO_add HI.out hU h1 h2 h3⟩
      have HSAV : Hid (x.s ≠ name → ∀ U, Below wr.heap.size wr U → Calls Try.prog 11 #[.pointer (some ⟨l, 0, none⟩), .string x.s] U fun e w' => e = .returned (.tuple #[]) ∧ ∃ s2 S3, AddO w0 nb lb l q name v' s2 L L2 S S3 (j + 1) w w') := fun hne U hU => by
        have hlen : (S ++ S2).length ≤ 1120 := by have h1 := HI.out.s2; have h2 := HSS.out; simp; omega
        refine (save_walk (name := x.s) (HI.out.ag.on hU).lg (by omega)).mono ?_
        rintro e w' ⟨rfl, s2, h1, h2, h3⟩
        exact ⟨rfl, s2, _, addO_save HI.out hU h1 h2 h3 hne⟩
      obtain ⟨f0, f1, fl0, fl1⟩ := HI.out.ag.facts
      clear hx hok hsm HME
      have HBX : Hid (∀ o, Below wr.heap.size wr (wr.alloc o)) := fun o => below_alloc _ _
      clear HI HO HH HG HLL HSS HQ
      by_cases hk1 : x.k = 1
      · rw [hk1] at c0
        cases hs : (x.s.toList == name.toList)
        · have HSW := dhid (HSAV.out (bytes_ne hs))
          clear HSAV HADD
          go_wp2_with fail
          refine (HSW.out _ (HBX.out _)).mono ?_
          rintro e W2 ⟨rfl, s2, S3, h2⟩
          have HI2 := dhid h2
          clear h2 HSW c0 c1 c2 c3 c4 c5 c6 c7 f0 f1 fl0 fl1 hb
          go_wp2
          exact ⟨⟨j + 1, _, _, _, _, hlt, by go_num, HI2⟩, by simp [intOf]; omega⟩
        · clear HSAV
          go_wp2_with fail
          refine (HADD.out _ (HBX.out _)).mono ?_
          rintro e W2 ⟨rfl, v2, L3, h2⟩
          have HI2 := dhid h2
          clear h2 HADD c0 c1 c2 c3 c4 c5 c6 c7 f0 f1 fl0 fl1 hb
          go_wp2
          exact ⟨⟨j + 1, _, _, _, _, hlt, by go_num, HI2⟩, by simp [intOf]; omega⟩
      · have hk1' : (x.k == 1) = false := beq_eq_false_iff_ne.2 hk1
        clear HSAV hk1
        go_wp2_with fail
        refine (HADD.out _ (HBX.out _)).mono ?_
        rintro e W2 ⟨rfl, v2, L3, h2⟩
        have HI2 := dhid h2
        clear h2 HADD c0 c1 c2 c3 c4 c5 c6 c7 f0 f1 fl0 fl1 hb
        go_wp2
        exact ⟨⟨j + 1, _, _, _, _, hlt, by go_num, HI2⟩, by simp [intOf]; omega⟩
    · have hjn : j = n := by omega
      subst hjn
      go_wp2
      go_end0
      exact ⟨rfl, _, _, _, _, HI.out⟩
end Go.Proofs.Ytdiagnmkfnhnjaa
