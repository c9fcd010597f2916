/-
  Undo: To and Back of package undo.
-/
import Derived.Lib.MinMax
import Derived.Test.YtdiagnmkfnhnjaaUdE
namespace Go.Proofs.Ytdiagnmkfnhnjaa
open Go.RowKit Rw

theorem to_start {B l q n g c : Nat} {s : Value} {L : List PE} {S : List Sv} {vt : Value} {w W1 W2 : World} (h : Lg B l q (.slice (some ⟨g, 0, none⟩) L.length c) s L S w) (b1 : Below w.heap.size w W1) (O1 : W1.ownsRow w.heap.size 35 5 vt (L.length - n) (flat peC (L.drop n))) (R : RevO w.heap.size vt (L.length - n) (L.drop n).reverse W1 W2) :
    ToM B l q w.heap.size (.slice (some ⟨g, 0, none⟩) L.length c) s (.slice (some ⟨g, 0, none⟩) L.length c) s L S vt (L.drop n).reverse L w W2 := by
  have hB : B ≤ w.heap.size := Nat.le_trans h.base (Nat.le_of_lt h.lt)
  have b2 : Below w.heap.size w W2 := b1.trans R.below
  have h2 := h.on b2
  refine ⟨h2.box, h2.own, h2.sav, ?_, h2.lone, b2.mono hB, fun b hb _ _ _ => b2.block b hb, rfl, rfl, fun p hp e => ?_, h.base⟩
  · rw [List.length_reverse, List.length_drop]; exact R.own
  · have h1 := (O1.lt p hp).1
    have h3 := (h.own.lt p e).2
    omega

theorem to_end {B l q n k : Nat} {v s v' s' : Value} {L : List PE} {S : List Sv} {vt : Value} {w W : World} (h : Lg B l q v s L S w) (m : ToM B l q w.heap.size v s v' s' (L.take n) (S.take k) vt (L.drop n).reverse L w W) (hk : SavedBy S n k) (hn : n ≤ L.length) : ToO B l q n v s v' s' L S vt w W := by
  have e := savedBy_upto h.ord hk
  have m' := m
  rw [e] at m'
  refine ⟨m'.lg (fun x hx => List.mem_of_mem_take hx) (h.ord.filter _) (fun x hx => ?_), ?_, m.lone, m.below, m.keeps, m.sb, m.vb⟩
  · have := (List.mem_filter.1 hx).2
    rw [List.length_take, Nat.min_eq_left hn]
    simpa using this
  · have := m.tak
    rwa [List.length_reverse] at this

theorem to_none {B l q n : Nat} {v s : Value} {L : List PE} {S : List Sv} {w : World} (h : Lg B l q v s L S w) (hn : L.length ≤ n) : ToO B l q n v s v s L S (.slice none 0 0) w w := by
  refine ⟨?_, ?_, h.lone, Below.refl _ _, fun _ _ _ _ _ => rfl, rfl, rfl⟩
  · rw [List.take_of_length_le hn, upto_all fun x hx => Nat.le_trans (h.top x hx) hn]; exact h
  · rw [List.drop_eq_nil_of_le hn]; exact World.ownsRow_nil _ _ _ _

set_option maxRecDepth 100000 in
set_option maxHeartbeats 2000000 in
theorem to_walk {B l q n : Nat} {v s : Value} {L : List PE} {S : List Sv} {m : Int} {w : World} (h : Lg B l q v s L S w) (hm : max m 0 = (n : Int)) (hL : L.length ≤ 100000) (hS : S.length ≤ 100000) :
    Calls Try.prog 17 #[.pointer (some ⟨l, 0, none⟩), .int .i64 m] w fun e w' => ∃ vt v' s', e = .returned vt ∧ ToO B l q n v s v' s' L S vt w w' := by
  obtain ⟨-, x1, x2, -, y1, y2, xl⟩ := h.facts
  obtain ⟨a, c, rfl⟩ := owns_slice h.own
  obtain ⟨a2, c2, rfl⟩ := owns_slice h.sav
  by_cases hn : L.length ≤ n
  · have HE := dhid (to_none h hn)
    clear h
    generalize L.length = len at *
    have hn' : (len : Int) ≤ (n : Int) := by omega
    go_enter Try.func17, Try.ntmps17
    go_wp2_with fail
    refine (len_walk x1).mono ?_
    rintro e w1 ⟨rfl, rfl⟩
    go_wp2
    go_ret
    exact ⟨_, _, _, rfl, HE.out⟩
  · have hlt : n < L.length := by omega
    rcases owns_addr h.own with ⟨-, h0, -⟩ | ⟨g, rfl⟩
    · omega
    have hcap := (owns_cap h.own).1
    have HS : Hid (Src w (some ⟨g, n * 5, none⟩) (L.length - n) (c - n) (flat peC (L.drop n))) := by
      have g1 := (owns_slg peC_len (by decide) h.own).2.1.drop n
      rw [Nat.zero_add] at g1
      exact g1.src peC_len (by decide) (by rw [List.length_drop]) (fun e => by cases e)
    have HLn : Hid ((flat peC (L.drop n)).length = (L.length - n) * 5) := by show _ = _; rw [flat_length peC_len, List.length_drop]
    have HST : Hid (∀ {vt : Value} {W1 W2 : World}, Below w.heap.size w W1 → W1.ownsRow w.heap.size 35 5 vt (L.length - n) (flat peC (L.drop n)) → RevO w.heap.size vt (L.length - n) (L.drop n).reverse W1 W2 → ToM B l q w.heap.size (.slice (some ⟨g, 0, none⟩) L.length c) (.slice a2 S.length c2) (.slice (some ⟨g, 0, none⟩) L.length c) (.slice a2 S.length c2) L S vt (L.drop n).reverse L w W2) := fun h1 h2 h3 => to_start h h1 h2 h3
    have HEN : Hid (∀ {k : Nat} {v' s' vt : Value} {W : World}, ToM B l q w.heap.size (.slice (some ⟨g, 0, none⟩) L.length c) (.slice a2 S.length c2) v' s' (L.take n) (S.take k) vt (L.drop n).reverse L w W → SavedBy S n k → ToO B l q n (.slice (some ⟨g, 0, none⟩) L.length c) (.slice a2 S.length c2) v' s' L S vt w W) := fun h1 h2 => to_end h h1 h2 (by omega)
    clear h hn
    have hlt' : ¬ (L.length : Int) ≤ (n : Int) := by omega
    have i1 : (n : Int) ≤ (c : Int) := by omega
    have i2 : (n : Int) ≤ (L.length : Int) := by omega
    have i3 : (L.length : Int) ≤ (c : Int) := by omega
    have i4 : ¬ c - n = 0 := by omega
    have i5 : ¬ c = n := by omega
    obtain ⟨len, HN⟩ : ∃ m, Hid (L.length = m) := ⟨_, rfl⟩
    rw [HN.out] at x1 hL hlt hcap HS HLn HST HEN hlt' i2 i3 ⊢
    obtain ⟨sl, HSL⟩ : ∃ m, Hid (S.length = m) := ⟨_, rfl⟩
    rw [HSL.out] at x2 hS HST HEN ⊢
    go_enter Try.func17, Try.ntmps17
    go_wp2_with fail
    refine (len_walk x1).mono ?_
    rintro e w1 ⟨rfl, rfl⟩
    go_wp2_with (first | (at_builtin; revert HS) | go_in)
    intro HS
    refine append_src Try.underlying44 infoEnt rfl (by decide) (by decide) rfl _ _ rfl 0 (Nat.zero_le _) _ 0 [] rfl (World.ownsRow_nil _ _ _ _) _ (len - n) _ (flat peC (L.drop n)) rfl HS.out HLn.out (flat_one peC_one) (by omega) ?_
    intro vt W1 O1 G1 A1
    rw [List.nil_append, Nat.zero_add] at O1
    have O1' := app_base (B := w1.heap.size) O1 A1 (Nat.le_refl _)
    have HB1 := dhid (grown_none G1)
    have HO1 := dhid O1'
    have HRW := dhid (reverse_walk O1' (by omega))
    clear O1 G1 A1 O1' HS HLn x1 x2 y1 y2 xl
    go_wp2_with fail
    refine HRW.out.mono ?_
    rintro e W2 ⟨rfl, R2⟩
    have HM := dhid (HST.out HB1.out HO1.out R2)
    have HFW := dhid (firstE_walk (m := n) (by have := HM.out.own; rwa [HN.out] at this) (Nat.le_of_lt hlt))
    obtain ⟨x1, x2, y1, y2, xl⟩ := HM.out.facts
    clear R2 HRW HO1 HB1 HST
    go_wp2_with fail
    refine HFW.out.mono ?_
    rintro e W3 ⟨rfl, F3⟩
    obtain ⟨e3, m3⟩ := HM.out.firstE F3 (by rw [HN.out]; omega)
    have HM3 := dhid m3
    have x1 : W3.cell? ⟨l, 1, none⟩ = some _ := cell_of_row _ _ _ _ _ _ e3
    have y1 : W3.frozen? ⟨l, 1, none⟩ = false := frozen_of_row _ _ _ _ _ e3
    have xl : l < W3.heap.size := (Array.getElem?_eq_some_iff.1 e3).1
    clear e3 m3 F3 HFW HM x2 y2
    go_wp2_with fail
    refine to_letter (F := fun W => ToM B l q w1.heap.size (.slice (some ⟨g, 0, none⟩) len c) (.slice a2 sl c2) (.slice (some ⟨g, 0, none⟩) n c) (.slice a2 sl c2) (L.take n) S vt (L.drop n).reverse L w1 W) HM3.out ?_
    clear HM3 x1 y1 xl
    intro W4 M4
    have HM4 := dhid M4
    have HSB : Hid (∀ W, W = W4 ∨ W = W4.drew → Calls Try.prog 31 #[.pointer (some ⟨l, 0, none⟩), .int .i64 (n : Int)] W fun e w' => ∃ k : Nat, e = .returned (.int .i64 (k : Int)) ∧ SavedBy S n k ∧ w' = W) := fun W hW => by
      rcases hW with rfl | rfl
      · exact savedBy_walk M4.facts.2.1 (by have := M4.sav; rwa [HSL.out] at this ⊢) (by rw [HSL.out]; exact hS)
      · exact savedBy_walk M4.drew.facts.2.1 (by have := M4.drew.sav; rwa [HSL.out] at this ⊢) (by rw [HSL.out]; exact hS)
    have HFS : Hid (∀ k, k ≤ sl → Calls Try.prog 27 #[.slice a2 sl c2, .int .i64 (k : Int)] W4.drew fun e w' => e = .returned (.slice a2 k c2) ∧ FirstO svC 69 2 B a2 sl c2 k S W4.drew w') := fun k hk => firstS_walk (by have := M4.drew.sav; rwa [HSL.out] at this) hk
    obtain ⟨x1, x2, y1, y2, xl⟩ := M4.facts
    clear M4
    go_region_law
      (first
        | (go_simp; go_at_call 31; with_reducible refine (HSB.out _ (Or.inr rfl)).mono ?_
           rintro e W5 ⟨k, rfl, hk, e5⟩
           subst e5
           have hkl := hk.1
           rw [HSL.out] at hkl
           have HKK := dhid hk
           clear hk HSB
           try dsimp only)
        | (go_simp; go_at_call 27; with_reducible refine (HFS.out _ hkl).mono ?_
           rintro e W6 ⟨rfl, F6⟩
           obtain ⟨e6, m6⟩ := HM4.out.drew.firstS F6 (by rw [HSL.out]; exact hkl)
           have HM6 := dhid m6
           have z2 : W6.cell? ⟨l, 2, none⟩ = some _ := cell_of_row _ _ _ _ _ _ e6
           have zf2 : W6.frozen? ⟨l, 2, none⟩ = false := frozen_of_row _ _ _ _ _ e6
           have zl : l < W6.heap.size := (Array.getElem?_eq_some_iff.1 e6).1
           clear e6 m6 F6 HFS x1 x2 y1 y2 xl
           try dsimp only))
    all_goals
      go_wp2_with fail
      go_ret
      exact ⟨_, _, _, rfl, HEN.out HM6.out HKK.out⟩

set_option maxRecDepth 100000 in
theorem back_nil (name : ByteArray) (w : World) : Calls Try.prog 13 #[.pointer none, .string name] w fun e w' => e = .returned (.tuple #[.slice none 0 0, .int .i64 15]) ∧ w' = w := by
  go_enter Try.func13, Try.ntmps13
  go_wp2
  go_ret2
  exact ⟨rfl, rfl⟩

/-- What Back leaves, and answers: to the savepoint k, at n entries. -/
structure BackO (B l q k n : Nat) (v s v' s' : Value) (L : List PE) (S : List Sv) (vt : Value) (w W : World) : Prop where
  lg : Lg B l q v' s' (L.take n) (S.take (k + 1)) W
  tak : W.ownsRow w.heap.size 35 5 vt (L.drop n).length (flat peC (L.drop n).reverse)
  lone : LoneE W L
  below : Below B w W
  keeps : Keeps l v s w W
  vb : v'.ownBlock = v.ownBlock

/-- What Back answers. -/
def BackE (B l q : Nat) (v s : Value) (L : List PE) (S : List Sv) (name : ByteArray) (w : World) (e : Ending) (w' : World) : Prop :=
  (e = .returned (.tuple #[.slice none 0 0, .int .i64 14]) ∧ (∀ x ∈ S, x.1 ≠ name) ∧ w' = w) ∨
  ∃ (k : Nat) (x : Sv) (vt v' s' : Value), e = .returned (.tuple #[vt, .int .i64 0]) ∧ S[k]? = some x ∧ x.1 = name ∧ (∀ (j : Nat) (y : Sv), k < j → S[j]? = some y → y.1 ≠ name) ∧ BackO B l q k x.2 v s v' s' L S vt w w'

theorem back_end {B l q k n : Nat} {v s v' : Value} {a : Option Addr} {m c : Nat} {L : List PE} {S : List Sv} {vt : Value} {w W W1 : World} (h : Lg B l q v s L S w) (hkx : k < (upto n S).length ∧ (upto n S).take (k + 1) = S.take (k + 1)) (t : ToO B l q n v s v' (.slice a m c) L S vt w W) (F : FirstO svC 69 2 B a m c (k + 1) (upto n S) W W1) :
    W1.heap[l]? = some (.cells #[.int .i64 (q : Int), v', .slice a m c] 64 (0, 0)) ∧ BackO B l q k n v s v' (.slice a (k + 1) c) L S vt w (W1.setCell ⟨l, 2, none⟩ (.slice a (k + 1) c)) := by
  have M : ToM B l q 0 v' (.slice a m c) v' (.slice a m c) (L.take n) (upto n S) (.slice none 0 0) [] L W W :=
    ⟨t.lg.box, t.lg.own, t.lg.sav, World.ownsRow_nil _ _ _ _, t.lone, Below.refl _ _, fun _ _ _ _ _ => rfl, rfl, rfl, fun p hp => (by cases hp), t.lg.base⟩
  obtain ⟨e1, M1⟩ := M.firstS F hkx.1
  refine ⟨e1, ?_⟩
  rw [hkx.2] at M1
  have hS : ∀ x ∈ S.take (k + 1), x.2 ≤ (L.take n).length := fun x hx => t.lg.top x (List.mem_of_mem_take (by rw [hkx.2]; exact hx))
  have hk : ∀ p, p ≠ l → Value.ownBlock (.slice a m c) ≠ some p → (W1.setCell ⟨l, 2, none⟩ (.slice a (k + 1) c)).heap[p]? = W.heap[p]? := fun p h1 h2 => by rw [heap_setCell_other _ _ _ _ h1, F.keep p h2]
  refine ⟨M1.lg (fun x hx => List.mem_of_mem_take hx) (h.ord.sublist (List.take_sublist _ _)) hS, ?_, M1.lone, t.below.trans M1.below, fun b hb h1 h2 h3 => ?_, t.vb⟩
  · refine owns_below t.tak fun p hp => ?_
    obtain ⟨cur, hc⟩ := owns_block t.tak hp
    refine hk p ?_ (owns_far t.lg.sav hc (by decide))
    rintro rfl
    rw [t.lg.box] at hc
    cases hc
  · rw [hk b h1 (by rw [t.sb]; exact h3), t.keeps b hb h1 h2 h3]

set_option maxRecDepth 100000 in
set_option maxHeartbeats 2000000 in
theorem back_walk {B l q : Nat} {v s : Value} {L : List PE} {S : List Sv} {name : ByteArray} {w : World} (h : Lg B l q v s L S w) (hL : L.length ≤ 100000) (hS : S.length ≤ 100000) :
    Calls Try.prog 13 #[.pointer (some ⟨l, 0, none⟩), .string name] w fun e w' => BackE B l q v s L S name w e w' := by
  obtain ⟨-, -, x2, -, -, -, xl⟩ := h.facts
  obtain ⟨a2, c2, rfl⟩ := owns_slice h.sav
  have HNW := dhid (newest_walk (name := name) h hS)
  have HNO : Hid ((∀ x ∈ S, x.1 ≠ name) → BackE B l q v (.slice a2 S.length c2) L S name w (.returned (.tuple #[.slice none 0 0, .int .i64 14])) w) := fun h => Or.inl ⟨rfl, h, rfl⟩
  have HG : Hid (∀ (k : Nat) (x : Sv), S[k]? = some x → ∃ g, a2 = some ⟨g, 0, none⟩ ∧ k < S.length ∧ w.cell? ⟨g, k * 2 + 1, none⟩ = some (.int .i64 (x.2 : Int)) ∧ g < w.heap.size) := fun k x hx => by
    have hk := (List.getElem?_eq_some_iff.1 hx).1
    rcases owns_addr h.sav with ⟨-, h0, -⟩ | ⟨g, rfl⟩
    · omega
    · exact ⟨g, rfl, hk, own_at svC_len h.sav hx (i := 1) rfl, (own_fro h.sav 0).2⟩
  have HTO : Hid (∀ n : Nat, Calls Try.prog 17 #[.pointer (some ⟨l, 0, none⟩), .int .i64 (n : Int)] w fun e w' => ∃ vt v' s', e = .returned vt ∧ ToO B l q n v (.slice a2 S.length c2) v' s' L S vt w w') := fun n => to_walk h (by omega) hL hS
  have HBE : Hid (∀ {k : Nat} {x : Sv} {vt v' s' : Value} {W' : World}, S[k]? = some x → x.1 = name → (∀ (j : Nat) (y : Sv), k < j → S[j]? = some y → y.1 ≠ name) → BackO B l q k x.2 v (.slice a2 S.length c2) v' s' L S vt w W' → BackE B l q v (.slice a2 S.length c2) L S name w (.returned (.tuple #[vt, .int .i64 0])) W') := fun h1 h2 h3 hb => Or.inr ⟨_, _, _, _, _, rfl, h1, h2, h3, hb⟩
  have HEN : Hid (∀ {k : Nat} {x : Sv} {v' : Value} {a : Option Addr} {m c : Nat} {vt : Value} {W W1 : World}, S[k]? = some x → ToO B l q x.2 v (.slice a2 S.length c2) v' (.slice a m c) L S vt w W → FirstO svC 69 2 B a m c (k + 1) (upto x.2 S) W W1 → W1.heap[l]? = some (.cells #[.int .i64 (q : Int), v', .slice a m c] 64 (0, 0)) ∧ BackO B l q k x.2 v (.slice a2 S.length c2) v' (.slice a (k + 1) c) L S vt w (W1.setCell ⟨l, 2, none⟩ (.slice a (k + 1) c))) := fun hx h1 h2 => back_end h (upto_take h.ord hx) h1 h2
  have HUP : Hid (∀ {k : Nat} {x : Sv}, S[k]? = some x → k < (upto x.2 S).length) := fun hx => (upto_take h.ord hx).1
  clear h
  obtain ⟨sl, HSL⟩ : ∃ m, Hid (S.length = m) := ⟨_, rfl⟩
  rw [HSL.out] at x2 hS HNO HG HTO HBE HEN ⊢
  go_enter Try.func13, Try.ntmps13
  go_wp2_with fail
  refine HNW.out.mono ?_
  rintro e w1 ⟨i, rfl, hi, rfl⟩
  rcases hi with ⟨rfl, hno⟩ | ⟨k, x, rfl, hx, hxn, hlast⟩
  · have HNN := dhid (HNO.out hno)
    clear HNO HNW hno
    go_wp2
    go_ret2
    exact HNN.out
  · obtain ⟨g, rfl, hkS, c1, gl⟩ := HG.out k x hx
    have HX := dhid hx
    have HXN := dhid hxn
    have HLA := dhid hlast
    clear hx hxn hlast HNO HNW HG
    go_wp2_with fail
    refine (HTO.out x.2).mono ?_
    rintro e W2 ⟨vt, v', s', rfl, T2⟩
    obtain ⟨a3, c3, rfl⟩ := owns_slice T2.lg.sav
    have HT2 := dhid T2
    have HFW : Hid (Calls Try.prog 27 #[.slice a3 (upto x.2 S).length c3, .int .i64 ((k : Int) + 1)] W2 fun e w' => e = .returned (.slice a3 (k + 1) c3) ∧ FirstO svC 69 2 B a3 (upto x.2 S).length c3 (k + 1) (upto x.2 S) W2 w') := firstS_walk (m := k + 1) T2.lg.sav (HUP.out HX.out)
    obtain ⟨-, -, z2, -, -, -, zl⟩ := T2.lg.facts
    generalize (upto x.2 S).length = ul at *
    clear T2 x2 xl c1 gl HTO HUP
    go_wp2_with fail
    refine HFW.out.mono ?_
    rintro e W3 ⟨rfl, F3⟩
    obtain ⟨e3, b3⟩ := HEN.out HX.out HT2.out F3
    have HB3 := dhid (HBE.out HX.out HXN.out HLA.out b3)
    have y2 : W3.cell? ⟨l, 2, none⟩ = some _ := cell_of_row _ _ _ _ _ _ e3
    have yf2 : W3.frozen? ⟨l, 2, none⟩ = false := frozen_of_row _ _ _ _ _ e3
    have yl : l < W3.heap.size := (Array.getElem?_eq_some_iff.1 e3).1
    clear e3 b3 F3 HFW HEN HBE HT2 z2 zl
    go_wp2
    go_ret2
    exact HB3.out
end Go.Proofs.Ytdiagnmkfnhnjaa
