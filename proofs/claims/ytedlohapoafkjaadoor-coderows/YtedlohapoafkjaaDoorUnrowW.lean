/-
  The row of bytes: Unrow of package code, and the document's.
-/
import Derived.Test.YtedlohapoafkjaaDoorCodeI
import Derived.Test.YtedlohapoafkjaaDoorRowV
namespace Go.Proofs.YtedlohapoafkjaaDoor
open Go.RowKit

def lenOf : Value → Nat | .string s => s.size | _ => 0

/-- What the loop still has to read: the text x, with the values acc behind it. -/
def Goes (s0 : List UInt8) (acc : List Val) (x : ByteArray) : Prop := acc.length ≤ 6 ∧ unr 6 [] s0 = unr (6 - acc.length) acc x.data.toList

theorem goes_start (s : ByteArray) : Goes s.data.toList [] s := ⟨by simp, rfl⟩

/-- One step: nothing is read, or there are six already, or one more is read. -/
theorem goes_step {s0 : List UInt8} {acc : List Val} {x : ByteArray} (h : Goes s0 acc x) (hx : ¬ x.size = 0) :
    (readN x.data.toList = 0 ∧ readE x = 16 ∧ unr 6 [] s0 = none) ∨
    (∃ m, readN x.data.toList = m ∧ ¬ m = 0 ∧ m ≤ x.size ∧ readE x = 0 ∧ acc.length = 6 ∧ unr 6 [] s0 = none) ∨
    ∃ u m, readN x.data.toList = m ∧ ¬ m = 0 ∧ m ≤ x.size ∧ readE x = 0 ∧ acc.length < 6 ∧ rdV x.data.toList = valV u.k u.n u.s ∧ restS x = x.extract m x.size ∧ Goes s0 (acc ++ [u]) (x.extract m x.size) := by
  have hne : ¬ x.data.toList = [] := fun e => hx (by show x.data.toList.length = 0; rw [e]; rfl)
  obtain ⟨h6, hu⟩ := h
  cases hr : readL x.data.toList with
  | none =>
    left
    have e := (rd_none hr).2
    exact ⟨e, by unfold readE; rw [if_pos e], by rw [hu, unr_none hne hr]⟩
  | some p =>
    right
    obtain ⟨⟨k, n, t⟩, m⟩ := p
    obtain ⟨e1, e2⟩ := rd_some hr
    obtain ⟨_, _, r3, _, _⟩ := key_read hr
    have hm : ¬ m = 0 := by
      rw [r3]
      intro e
      exact key_ne k n _ (List.length_eq_zero_iff.1 e)
    have hle := readN_le x.data.toList
    rw [e2] at hle
    have e3 : readE x = 0 := by unfold readE; rw [e2, if_neg hm]
    by_cases h5 : acc.length = 6
    · left
      refine ⟨m, e2, hm, hle, e3, h5, ?_⟩
      rw [hu, h5]
      exact unr_full hne
    · right
      refine ⟨⟨k, n, strB t⟩, m, e2, hm, hle, e3, by omega, e1, ?_, ?_, ?_⟩
      · unfold restS; rw [e2, if_neg hm, extract_drop]
      · simp; omega
      · rw [hu, show 6 - acc.length = (6 - (acc ++ [(⟨k, n, strB t⟩ : Val)]).length) + 1 by simp; omega, unr_step hne hr, extract_drop]
        rfl

theorem goes_end {s0 : List UInt8} {acc : List Val} {x : ByteArray} (h : Goes s0 acc x) (hx : x.size = 0) : unr 6 [] s0 = some acc := by
  rw [h.2, show x.data.toList = [] from List.length_eq_zero_iff.1 hx, unr_nil]

/-- What an Unrow tells: the values, in new memory, and by y that there are such, or none. -/
def Unrowed (s : List UInt8) (y : Bool → Value) (w : World) (e : Ending) (w' : World) : Prop :=
  ∃ a n cap, e = .returned (.tuple #[.slice a n cap, y (unr 6 [] s).isSome]) ∧ n ≤ 6 ∧ Sl w' a n ((unr 6 [] s).getD []) ∧ Below w.heap.size w w'

theorem unrowed_some {s : List UInt8} {y : Bool → Value} {w w' : World} {ad : Option Addr} {acc : List Val} {cp : Nat} (h : unr 6 [] s = some acc) (h6 : acc.length ≤ 6) (hS : Sl w' ad acc.length acc) (hB : Below w.heap.size w w') :
    Unrowed s y w (.returned (.tuple #[.slice ad acc.length cp, y true])) w' :=
  ⟨ad, acc.length, cp, by rw [h]; rfl, h6, by rw [h]; exact hS, hB⟩

theorem unrowed_none {s : List UInt8} {y : Bool → Value} {w w' : World} (h : unr 6 [] s = none) (hB : Below w.heap.size w w') : Unrowed s y w (.returned (.tuple #[.slice none 0 0, y false])) w' :=
  ⟨none, 0, 0, by rw [h]; rfl, by omega, by rw [h]; exact ⟨rfl, Or.inl rfl⟩, hB⟩

theorem ownsV_below {base : Nat} {W W' : World} {v : Value} {l : List Val} (h : OwnsV base W v l) (hb : Below W.heap.size W W') : OwnsV base W' v l := by
  obtain ⟨h1, h2⟩ := h
  refine ⟨h1, ?_⟩
  rcases h2 with h2 | ⟨g, cap, cur, hv, hg, hh, r⟩
  · exact Or.inl h2
  · refine Or.inr ⟨g, cap, cur, hv, hg, ?_, r⟩
    obtain ⟨hlt, _⟩ := Array.getElem?_eq_some_iff.1 hh
    rw [hb.block g hlt]
    exact hh

theorem three_new (W : World) (u : Val) (t : TypeId) : (W.alloc (.cells #[.int .i64 u.k, .int .i64 u.n, .string u.s] t)).cell? ⟨W.heap.size, 0, none⟩ = some (.int .i64 u.k) ∧ (W.alloc (.cells #[.int .i64 u.k, .int .i64 u.n, .string u.s] t)).cell? ⟨W.heap.size, 1, none⟩ = some (.int .i64 u.n) ∧ (W.alloc (.cells #[.int .i64 u.k, .int .i64 u.n, .string u.s] t)).cell? ⟨W.heap.size, 2, none⟩ = some (.string u.s) := by
  refine ⟨?_, ?_, ?_⟩ <;> simp [go_sem]

def errY (b : Bool) : Value := .int .i64 (if b then 0 else 16)

set_option maxRecDepth 100000 in
set_option maxHeartbeats 4000000 in
theorem unrow_walk (s : ByteArray) (hs : s.size ≤ 100000) (w : World) :
    Calls Tryd.prog 24 #[.string s] w fun e w' => Unrowed s.data.toList errY w e w' := by
  go_enter Tryd.func24, Tryd.ntmps24
  go_wp2
  go_loopw [0, 4] (fun t v wr => ∃ (x : ByteArray) (acc : List Val), t = .string x ∧ x.size ≤ s.size ∧ Goes s.data.toList acc x ∧ OwnsV w.heap.size wr v acc ∧ Below w.heap.size w wr) (fun t _ _ => lenOf t)
  case atStart => exact ⟨s, [], rfl, Nat.le_refl _, goes_start s, ownsV_nil _ _, Below.refl _ _⟩
  case round =>
    obtain ⟨x, acc, rfl, hx, G, O, B⟩ := hrel
    obtain ⟨ad, cp, rfl, S⟩ := ownsV_sl O
    have HO : Hid (OwnsV w.heap.size wr (.slice ad acc.length cp) acc) := O
    have HS : Hid (Sl wr ad acc.length acc) := S
    have HG : Hid (Goes s.data.toList acc x) := G
    have hg6 := G.1
    clear O S G
    by_cases hz : x.size = 0
    · have he : x.toList.isEmpty = true := by rw [toList_isEmpty, hz]; rfl
      have HE : Hid _ := goes_end HG.out hz
      go_wp2
      go_ret2
      exact unrowed_some HE.out hg6 HS.out B
    · have he : x.toList.isEmpty = false := by rw [toList_isEmpty]; simpa using hz
      have HT : Hid _ := goes_step HG.out hz
      go_wp2_with fail
      refine (read_walk x (by omega) _).mono ?_
      rintro e w1 ⟨rfl, hb1⟩
      have B1 := below_on B hb1
      rcases HT.out with ⟨e1, e2, e3⟩ | ⟨q, e1, hq, hle, e2, h6, e3⟩ | ⟨u, q, e1, hq, hle, e2, h6, e4, e5, e6⟩
      · rw [e2, rdV_none e1]
        have HN : Hid _ := e3
        clear HT e1 e2 e3
        unfold valV
        go_wp2
        go_ret2
        exact unrowed_none HN.out (below_on B1 (below_alloc _ _))
      · rw [e2]
        have HN : Hid _ := e3
        have h6' : ((acc.length : Int) == 6) = true := by rw [h6]; rfl
        clear HT e1 e2 e3 h6
        unfold rdV valV
        go_wp2
        go_ret2
        exact unrowed_none HN.out (below_on B1 (below_alloc _ _))
      · rw [e2, e4, e5]
        have HN : Hid _ := e6
        have h6' : ((acc.length : Int) == 6) = false := by rw [beq_eq_false_iff_ne]; omega
        clear HT e1 e2 e4 e5 e6
        have HO1 : Hid (OwnsV w.heap.size w1 (.slice ad acc.length cp) acc) := ownsV_below HO.out hb1
        have T := three_new (w1.alloc (.cells #[.int .i64 u.k, .int .i64 u.n, .string u.s] 23)) u 23
        rw [World.size_alloc] at T
        have HT : Hid _ := T
        have HB1 : Hid _ := B1
        clear T HO HS HG hb1 B B1
        unfold valV
        go_wp2_with (first
          | (at_builtin; refine appendV rfl _ _ rfl w.heap.size w _ _ rfl (ownsV_alloc (ownsV_alloc HO1.out _) _) ((HB1.out.alloc HB1.out.size _).alloc (Nat.le_trans HB1.out.size (by simp)) _) (by omega) (Nat.le_trans HB1.out.size (by simp; omega)) (w1.heap.size + 1) u 1 rfl HT.out ?_; intro v2 w2 O2 B2)
          | go_in)
        refine ⟨⟨_, acc ++ [u], rfl, ?_, HN.out, O2, B2⟩, ?_⟩
        · rw [ByteArray.size_extract]; omega
        · simp only [lenOf]
          rw [ByteArray.size_extract]; omega

def boolY (b : Bool) : Value := .bool b

set_option maxRecDepth 100000 in
set_option maxHeartbeats 4000000 in
theorem runrow_walk (s : ByteArray) (hs : s.size ≤ 100000) (w : World) :
    Calls Tryd.prog 26 #[.string s] w fun e w' => Unrowed s.data.toList boolY w e w' := by
  go_enter Tryd.func26, Tryd.ntmps26
  go_wp2
  go_loopw [0, 4] (fun t v wr => ∃ (x : ByteArray) (acc : List Val), t = .string x ∧ x.size ≤ s.size ∧ Goes s.data.toList acc x ∧ OwnsV w.heap.size wr v acc ∧ Below w.heap.size w wr) (fun t _ _ => lenOf t)
  case atStart => exact ⟨s, [], rfl, Nat.le_refl _, goes_start s, ownsV_new _ _ (Nat.le_refl _), below_alloc _ _⟩
  case round =>
    obtain ⟨x, acc, rfl, hx, G, O, B⟩ := hrel
    obtain ⟨ad, cp, rfl, S⟩ := ownsV_sl O
    have HO : Hid (OwnsV w.heap.size wr (.slice ad acc.length cp) acc) := O
    have HS : Hid (Sl wr ad acc.length acc) := S
    have HG : Hid (Goes s.data.toList acc x) := G
    have hg6 := G.1
    clear O S G
    by_cases hz : x.size = 0
    · have HE : Hid _ := goes_end HG.out hz
      go_wp2
      go_ret2
      exact unrowed_some HE.out hg6 HS.out B
    · have hz' : 0 < x.size := by omega
      have HT : Hid _ := goes_step HG.out hz
      clear hz
      go_wp2_with fail
      refine (rread_walk x (by omega) _).mono ?_
      rintro e w1 ⟨rfl, hb1⟩
      have B1 := below_on B hb1
      rcases HT.out with ⟨e1, e2, e3⟩ | ⟨q, e1, hq, hle, e2, h6, e3⟩ | ⟨u, q, e1, hq, hle, e2, h6, e4, e5, e6⟩
      · rw [e1, rdV_none e1]
        have HN : Hid _ := e3
        clear HT e1 e2 e3
        unfold valV
        go_wp2
        go_ret2
        exact unrowed_none HN.out (below_on B1 (below_alloc _ _))
      · rw [e1]
        have HN : Hid _ := e3
        have h6' : 5 < acc.length := by omega
        have hq' : ((q : Int) == 0) = false := by rw [beq_eq_false_iff_ne]; omega
        clear HT e1 e2 e3 h6
        unfold rdV valV
        go_wp2
        go_ret2
        exact unrowed_none HN.out (below_on B1 (below_alloc _ _))
      · rw [e1, e4]
        have HN : Hid _ := e6
        have h6' : acc.length ≤ 5 := by omega
        have hq' : ((q : Int) == 0) = false := by rw [beq_eq_false_iff_ne]; omega
        clear HT e1 e2 e4 e5 e6
        have HO1 : Hid (OwnsV w.heap.size w1 (.slice ad acc.length cp) acc) := ownsV_below HO.out hb1
        have T := three_new (w1.alloc (.cells #[.int .i64 u.k, .int .i64 u.n, .string u.s] 23)) u 23
        rw [World.size_alloc] at T
        have HT : Hid _ := T
        have HB1 : Hid _ := B1
        clear T HO HS HG hb1 B B1
        unfold valV
        go_wp2_with (first
          | (at_builtin; refine appendV rfl _ _ rfl w.heap.size w _ _ rfl (ownsV_alloc (ownsV_alloc HO1.out _) _) ((HB1.out.alloc HB1.out.size _).alloc (Nat.le_trans HB1.out.size (by simp)) _) (by omega) (Nat.le_trans HB1.out.size (by simp; omega)) (w1.heap.size + 1) u 1 rfl HT.out ?_; intro v2 w2 O2 B2)
          | go_in)
        refine ⟨⟨_, acc ++ [u], rfl, ?_, HN.out, O2, B2⟩, ?_⟩
        · rw [ByteArray.size_extract]; omega
        · simp only [lenOf]
          rw [ByteArray.size_extract]; omega
end Go.Proofs.YtedlohapoafkjaaDoor
