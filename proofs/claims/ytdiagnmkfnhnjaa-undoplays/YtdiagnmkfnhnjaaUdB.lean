/-
  Undo: the log in memory; New, Len, Saves, newest, savedBy, first of package undo.
-/
import Derived.Test.YtdiagnmkfnhnjaaUdA
namespace Go.Proofs.Ytdiagnmkfnhnjaa
open Go.RowKit Rw

abbrev Sv := ByteArray × Nat
def svC (x : Sv) : List Value := [.string x.1, .int .i64 (x.2 : Int)]
theorem svC_len (x : Sv) : (svC x).length = 2 := rfl
theorem svC_one (x : Sv) : ∀ u ∈ svC x, u.oneCell' = true := by
  intro u hu
  simp [svC] at hu
  rcases hu with rfl | rfl <;> rfl

/-- Entries whose lists lie in rows of their own. -/
structure LoneE (W : World) (L : List PE) : Prop where
  all : ∀ x ∈ L, MeansE W x.1 x.2
  rows : ∀ x ∈ L, W.ownsRow 0 42 3 (.slice x.1.oa x.1.ol x.1.oc) x.1.ol (flat vaC x.2.o) ∧ W.ownsRow 0 42 3 (.slice x.1.na x.1.nl x.1.nc) x.1.nl (flat vaC x.2.n)

theorem LoneE.keep {W W' : World} {N : List PE} (h : LoneE W N) (hb : ∀ x ∈ N, (∀ q, Value.ownBlock (.slice x.1.oa x.1.ol x.1.oc) = some q → W'.heap[q]? = W.heap[q]?) ∧ ∀ q, Value.ownBlock (.slice x.1.na x.1.nl x.1.nc) = some q → W'.heap[q]? = W.heap[q]?) : LoneE W' N := by
  have hr : ∀ x ∈ N, W'.ownsRow 0 42 3 (.slice x.1.oa x.1.ol x.1.oc) x.1.ol (flat vaC x.2.o) ∧ W'.ownsRow 0 42 3 (.slice x.1.na x.1.nl x.1.nc) x.1.nl (flat vaC x.2.n) := fun x hx =>
    ⟨owns_below (h.rows x hx).1 (hb x hx).1, owns_below (h.rows x hx).2 (hb x hx).2⟩
  refine ⟨fun x hx => ?_, hr⟩
  have m := h.all x hx
  exact ⟨m.k, m.id, m.t, m.ol, m.nl, m.ob, m.nb, (owns_slv (hr x hx).1).2.1, (owns_slv (hr x hx).2).2.1, m.oc, m.nc⟩

/-- What turns no row of values keeps them. -/
theorem LoneE.kind {W W' : World} {N : List PE} (h : LoneE W N) (hb : ∀ (q : Nat) (cur : Array Value), W.heap[q]? = some (Obj.cells cur 42 (0, 0)) → W'.heap[q]? = W.heap[q]?) : LoneE W' N :=
  h.keep fun x hx => ⟨fun q hq => by obtain ⟨cur, hc⟩ := owns_block (h.rows x hx).1 hq; exact hb q cur hc, fun q hq => by obtain ⟨cur, hc⟩ := owns_block (h.rows x hx).2 hq; exact hb q cur hc⟩

theorem LoneE.on {W W' : World} {N : List PE} (h : LoneE W N) (hb : Below W.heap.size W W') : LoneE W' N := h.kind fun q _ hq => hb.block q (Array.getElem?_eq_some_iff.1 hq).1

theorem LoneE.sub {W : World} {N M : List PE} (h : LoneE W N) (hs : ∀ x ∈ M, x ∈ N) : LoneE W M := ⟨fun x hx => h.all x (hs x hx), fun x hx => h.rows x (hs x hx)⟩

/-- A log: its block, its two rows, its entries, its savepoints. -/
structure Lg (B l q : Nat) (v s : Value) (L : List PE) (S : List Sv) (W : World) : Prop where
  box : W.heap[l]? = some (.cells #[.int .i64 (q : Int), v, s] 64 (0, 0))
  base : B ≤ l
  own : W.ownsRow B 35 5 v L.length (flat peC L)
  sav : W.ownsRow B 69 2 s S.length (flat svC S)
  lone : LoneE W L
  ord : S.Pairwise fun x y => x.2 ≤ y.2
  top : ∀ x ∈ S, x.2 ≤ L.length

theorem Lg.lt {B l q : Nat} {v s : Value} {L : List PE} {S : List Sv} {W : World} (h : Lg B l q v s L S W) : l < W.heap.size := (Array.getElem?_eq_some_iff.1 h.box).1

theorem Lg.facts {B l q : Nat} {v s : Value} {L : List PE} {S : List Sv} {W : World} (h : Lg B l q v s L S W) : W.cell? ⟨l, 0, none⟩ = some (.int .i64 (q : Int)) ∧ W.cell? ⟨l, 1, none⟩ = some v ∧ W.cell? ⟨l, 2, none⟩ = some s ∧ W.frozen? ⟨l, 0, none⟩ = false ∧ W.frozen? ⟨l, 1, none⟩ = false ∧ W.frozen? ⟨l, 2, none⟩ = false ∧ l < W.heap.size :=
  ⟨cell_of_row _ _ _ _ _ _ h.box, cell_of_row _ _ _ _ _ _ h.box, cell_of_row _ _ _ _ _ _ h.box, frozen_of_row _ _ _ _ _ h.box, frozen_of_row _ _ _ _ _ h.box, frozen_of_row _ _ _ _ _ h.box, h.lt⟩

/-- What turns none of its blocks keeps a log. -/
theorem Lg.keep {B l q : Nat} {v s : Value} {L : List PE} {S : List Sv} {W W' : World} (h : Lg B l q v s L S W) (hl : W'.heap[l]? = W.heap[l]?) (hv : ∀ q, v.ownBlock = some q → W'.heap[q]? = W.heap[q]?) (hs : ∀ q, s.ownBlock = some q → W'.heap[q]? = W.heap[q]?) (hL : LoneE W' L) : Lg B l q v s L S W' :=
  ⟨by rw [hl]; exact h.box, h.base, owns_below h.own hv, owns_below h.sav hs, hL, h.ord, h.top⟩

theorem Lg.on {B l q : Nat} {v s : Value} {L : List PE} {S : List Sv} {W W' : World} (h : Lg B l q v s L S W) (hb : Below W.heap.size W W') : Lg B l q v s L S W' :=
  h.keep (hb.block _ h.lt) (fun q hq => hb.block q (h.own.lt q hq).2) (fun q hq => hb.block q (h.sav.lt q hq).2) (h.lone.on hb)

/-- A log's block holds no row. -/
theorem Lg.ne_l {B l q : Nat} {v s : Value} {L : List PE} {S : List Sv} {W : World} (h : Lg B l q v s L S W) {b e z n : Nat} {u : Value} {xs : List Value} (hu : W.ownsRow b e z u n xs) (he : e ≠ 64) {p : Nat} (hp : u.ownBlock = some p) : p ≠ l := by
  rintro rfl
  exact owns_far hu h.box he hp

/-- All blocks but the log's three stand. -/
def Keeps (l : Nat) (v s : Value) (w w' : World) : Prop := ∀ b, b < w.heap.size → b ≠ l → v.ownBlock ≠ some b → s.ownBlock ≠ some b → w'.heap[b]? = w.heap[b]?

theorem Keeps.of {l : Nat} {v s : Value} {w w' : World} (h : Below w.heap.size w w') : Keeps l v s w w' := fun b hb _ _ _ => h.block b hb

/-- A block of another kind is none of a log's. -/
theorem Lg.far {B l q : Nat} {v s : Value} {L : List PE} {S : List Sv} {W : World} (h : Lg B l q v s L S W) {g e : Nat} {cur : Array Value} {m : Nat × Nat} (hg : W.heap[g]? = some (Obj.cells cur e m)) (h1 : e ≠ 64) (h2 : e ≠ 35) (h3 : e ≠ 69) : g ≠ l ∧ v.ownBlock ≠ some g ∧ s.ownBlock ≠ some g := by
  refine ⟨?_, owns_far h.own hg (Ne.symm h2), owns_far h.sav hg (Ne.symm h3)⟩
  rintro rfl
  rw [h.box] at hg
  cases hg
  exact h1 rfl

theorem Lg.kept {B l q : Nat} {v s : Value} {L : List PE} {S : List Sv} {W W' : World} (h : Lg B l q v s L S W) (hk : Keeps l v s W W') {g e : Nat} {cur : Array Value} {m : Nat × Nat} (hg : W.heap[g]? = some (Obj.cells cur e m)) (h1 : e ≠ 64) (h2 : e ≠ 35) (h3 : e ≠ 69) : W'.heap[g]? = some (Obj.cells cur e m) := by
  obtain ⟨a, b, c⟩ := h.far hg h1 h2 h3
  rw [hk g (Array.getElem?_eq_some_iff.1 hg).1 a b c, hg]

theorem Lg.lone_kept {B l q : Nat} {v s : Value} {L N : List PE} {S : List Sv} {W W' : World} (h : Lg B l q v s L S W) (hk : Keeps l v s W W') (hN : LoneE W N) : LoneE W' N :=
  hN.kind fun _ _ hq => (h.kept hk hq (by decide) (by decide) (by decide)).trans hq.symm

set_option maxRecDepth 100000 in
theorem new_walk (q : Nat) (hq : q ≤ 100000) (w : World) : Calls Try.prog 7 #[.int .i64 (q : Int)] w fun e w' => e = .returned (.tuple #[.pointer (some ⟨w.heap.size, 0, none⟩), .int .i64 0]) ∧ w' = w.alloc (.cells #[.int .i64 (q : Int), .slice none 0 0, .slice none 0 0] 64) := by
  have h1 : ¬ (q : Int) < 0 := by omega
  have h2 : ¬ (100000 : Int) < (q : Int) := by omega
  go_enter Try.func7, Try.ntmps7
  go_wp2
  go_ret2
  exact ⟨rfl, rfl⟩

set_option maxRecDepth 100000 in
theorem new_bad (q : Int) (hq : q < 0 ∨ 100000 < q) (w : World) : Calls Try.prog 7 #[.int .i64 q] w fun e w' => e = .returned (.tuple #[.pointer none, .int .i64 15]) ∧ w' = w := by
  rcases hq with h | h
  · go_enter Try.func7, Try.ntmps7
    go_wp2
    go_ret2
    exact ⟨rfl, rfl⟩
  · have h1 : ¬ q < 0 := by omega
    go_enter Try.func7, Try.ntmps7
    go_wp2
    go_ret2
    exact ⟨rfl, rfl⟩

theorem lg_new {w W : World} (h : Below w.heap.size w W) (q : Nat) : Lg w.heap.size W.heap.size q (.slice none 0 0) (.slice none 0 0) [] [] (W.alloc (.cells #[.int .i64 (q : Int), .slice none 0 0, .slice none 0 0] 64)) :=
  ⟨heap_new _ _, h.size, World.ownsRow_nil _ _ _ _, World.ownsRow_nil _ _ _ _, ⟨fun _ hx => (by cases hx), fun _ hx => (by cases hx)⟩, List.Pairwise.nil, fun _ hx => (by cases hx)⟩

set_option maxRecDepth 100000 in
theorem len_nil (w : World) : Calls Try.prog 19 #[.pointer none] w fun e w' => e = .returned (.int .i64 0) ∧ w' = w := by
  go_enter Try.func19, Try.ntmps19
  go_wp2
  go_ret
  exact ⟨rfl, rfl⟩

set_option maxRecDepth 100000 in
theorem len_walk {l : Nat} {a : Option Addr} {n c : Nat} {w : World} (h : w.cell? ⟨l, 1, none⟩ = some (.slice a n c)) : Calls Try.prog 19 #[.pointer (some ⟨l, 0, none⟩)] w fun e w' => e = .returned (.int .i64 (n : Int)) ∧ w' = w := by
  go_enter Try.func19, Try.ntmps19
  go_wp2
  go_ret
  exact ⟨rfl, rfl⟩

set_option maxRecDepth 100000 in
theorem saves_nil (w : World) : Calls Try.prog 22 #[.pointer none] w fun e w' => e = .returned (.slice none 0 0) ∧ w' = w := by
  go_enter Try.func22, Try.ntmps22
  go_wp2
  go_ret
  exact ⟨rfl, rfl⟩

/-- Where the newest savepoint with a name stands. -/
def New1 (S : List Sv) (name : ByteArray) (i : Int) : Prop := (i = -1 ∧ ∀ x ∈ S, x.1 ≠ name) ∨ ∃ (k : Nat) (x : Sv), i = (k : Int) ∧ S[k]? = some x ∧ x.1 = name ∧ ∀ (j : Nat) (y : Sv), k < j → S[j]? = some y → y.1 ≠ name

theorem bytes_ne {a b : ByteArray} (h : (a.toList == b.toList) = false) : a ≠ b := fun e => by subst e; simp at h
theorem bytes_eq {a b : ByteArray} (h : (a.toList == b.toList) = true) : a = b := bytes_ext (by simpa using h)

set_option maxRecDepth 100000 in
set_option maxHeartbeats 1000000 in
theorem newest_walk {B l q : Nat} {v s : Value} {L : List PE} {S : List Sv} {name : ByteArray} {w : World} (h : Lg B l q v s L S w) (hb : S.length ≤ 100000) :
    Calls Try.prog 26 #[.pointer (some ⟨l, 0, none⟩), .string name] w fun e w' => ∃ i, e = .returned (.int .i64 i) ∧ New1 S name i ∧ w' = w := by
  obtain ⟨-, -, x2, -, -, -, xl⟩ := h.facts
  obtain ⟨a, c, rfl⟩ := owns_slice h.sav
  have HS := dhid h.sav
  have HE : Hid (S.length = 0 → S = []) := List.length_eq_zero_iff.1
  have HG : Hid (∀ k, k < S.length → ∃ g x, a = some ⟨g, 0, none⟩ ∧ S[k]? = some x ∧ w.cell? ⟨g, k * 2, none⟩ = some (.string x.1) ∧ g < w.heap.size) := fun k hk => by
    rcases owns_addr h.sav with ⟨-, h0, -⟩ | ⟨g, rfl⟩
    · omega
    · exact ⟨g, S[k], rfl, List.getElem?_eq_getElem hk, own_at svC_len h.sav (List.getElem?_eq_getElem hk) (i := 0) rfl, (own_fro h.sav 0).2⟩
  have HO : Hid (∀ j, S.length ≤ j → S[j]? = none) := fun j hj => List.getElem?_eq_none hj
  clear h
  obtain ⟨n, HN⟩ : ∃ m, Hid (S.length = m) := ⟨_, rfl⟩
  rw [HN.out] at x2 hb HE HG HO
  have HZ : Hid (∀ (j : Nat) (y : Sv), n ≤ j → S[j]? = some y → y.1 ≠ name) := fun j y hj hy => by rw [HO.out j hj] at hy; cases hy
  have HM : Hid ((∀ (j : Nat) (y : Sv), S[j]? = some y → y.1 ≠ name) → ∀ x ∈ S, x.1 ≠ name) := fun h x hx => by
    obtain ⟨j, hj⟩ := List.getElem?_of_mem hx
    exact h j x hj
  clear HS HO
  go_enter Try.func26, Try.ntmps26
  go_wp2
  go_loop [5] (fun i => (i = .int .i64 (-1) ∧ Hid (∀ (j : Nat) (y : Sv), S[j]? = some y → y.1 ≠ name)) ∨ ∃ k : Nat, k < n ∧ i = .int .i64 (k : Int) ∧ Hid (∀ (j : Nat) (y : Sv), k < j → S[j]? = some y → y.1 ≠ name)) (fun i => (intOf i + 1).toNat)
  case atStart =>
    rcases n with _ | n
    · exact Or.inl ⟨rfl, fun j y hy => HZ.out j y (Nat.zero_le _) hy⟩
    · exact Or.inr ⟨n, by omega, by go_num, fun j y hj hy => HZ.out j y hj hy⟩
  case round =>
    rcases hrel with ⟨rfl, HR⟩ | ⟨k, hk, rfl, HR⟩
    · go_wp2
      go_ret
      exact ⟨_, rfl, Or.inl ⟨rfl, HM.out HR.out⟩, rfl⟩
    · obtain ⟨g, x, rfl, hx, c0, gl⟩ := HG.out k hk
      have HX := dhid hx
      clear hx
      cases hc : (x.1.toList == name.toList)
      · rcases k with _ | k
        · go_wp2
          refine ⟨Or.inl ⟨rfl, fun j y hy => ?_⟩, by simp [intOf]⟩
          rcases j with _ | j
          · rw [HX.out] at hy; cases hy; exact bytes_ne hc
          · exact HR.out _ y (by omega) hy
        · go_wp2
          refine ⟨Or.inr ⟨k, by omega, by go_num, fun j y hj hy => ?_⟩, by simp [intOf]; omega⟩
          by_cases e : j = k + 1
          · subst e; rw [HX.out] at hy; cases hy; exact bytes_ne hc
          · exact HR.out j y (by omega) hy
      · go_wp2
        go_ret
        exact ⟨_, rfl, Or.inr ⟨k, x, rfl, HX.out, bytes_eq hc, HR.out⟩, rfl⟩

/-- How many savepoints were made at n entries or fewer, looked for from the newest on. -/
def SavedBy (S : List Sv) (n k : Nat) : Prop := k ≤ S.length ∧ (∀ (j : Nat) (y : Sv), k ≤ j → S[j]? = some y → n < y.2) ∧ ∀ y, 0 < k → S[k - 1]? = some y → y.2 ≤ n

set_option maxRecDepth 100000 in
set_option maxHeartbeats 1000000 in
theorem savedBy_walk {B l : Nat} {s : Value} {S : List Sv} {m : Nat} {w : World} (x2 : w.cell? ⟨l, 2, none⟩ = some s) (h : w.ownsRow B 69 2 s S.length (flat svC S)) (hb : S.length ≤ 100000) :
    Calls Try.prog 31 #[.pointer (some ⟨l, 0, none⟩), .int .i64 (m : Int)] w fun e w' => ∃ k : Nat, e = .returned (.int .i64 (k : Int)) ∧ SavedBy S m k ∧ w' = w := by
  obtain ⟨a, c, rfl⟩ := owns_slice h
  have HG : Hid (∀ k, k < S.length → ∃ g x, a = some ⟨g, 0, none⟩ ∧ S[k]? = some x ∧ w.cell? ⟨g, k * 2 + 1, none⟩ = some (.int .i64 (x.2 : Int)) ∧ g < w.heap.size) := fun k hk => by
    rcases owns_addr h with ⟨-, h0, -⟩ | ⟨g, rfl⟩
    · omega
    · exact ⟨g, S[k], rfl, List.getElem?_eq_getElem hk, own_at svC_len h (List.getElem?_eq_getElem hk) (i := 1) rfl, (own_fro h 0).2⟩
  have HO : Hid (∀ j, S.length ≤ j → S[j]? = none) := fun j hj => List.getElem?_eq_none hj
  clear h
  obtain ⟨n, HN⟩ : ∃ m, Hid (S.length = m) := ⟨_, rfl⟩
  rw [HN.out] at x2 hb HG HO
  have HZ : Hid (∀ (j : Nat) (y : Sv), n ≤ j → S[j]? = some y → m < y.2) := fun j y hj hy => by rw [HO.out j hj] at hy; cases hy
  have HF : Hid (∀ k, k ≤ n → (∀ (j : Nat) (y : Sv), k ≤ j → S[j]? = some y → m < y.2) → (∀ y, 0 < k → S[k - 1]? = some y → y.2 ≤ m) → SavedBy S m k) := fun k h1 h2 h3 => ⟨by rw [HN.out]; exact h1, h2, h3⟩
  clear HO
  go_enter Try.func31, Try.ntmps31
  go_wp2
  go_loop [5] (fun i => ∃ k : Nat, k ≤ n ∧ i = .int .i64 (k : Int) ∧ Hid (∀ (j : Nat) (y : Sv), k ≤ j → S[j]? = some y → m < y.2)) (fun i => (intOf i).toNat)
  case atStart => exact ⟨n, Nat.le_refl _, rfl, HZ.out⟩
  case round =>
    obtain ⟨k, hk, rfl, HR⟩ := hrel
    rcases k with _ | k
    · go_wp2
      go_ret
      exact ⟨0, rfl, HF.out 0 hk HR.out (fun y h => absurd h (by omega)), rfl⟩
    · obtain ⟨g, x, rfl, hx, c0, gl⟩ := HG.out k (by omega)
      have HX := dhid hx
      clear hx
      have i1 : ((k : Int) + 1 - 1) = (k : Int) := by omega
      by_cases hc : x.2 ≤ m
      · have hc' : ¬ (m : Int) < (x.2 : Int) := by omega
        go_wp2
        go_ret
        exact ⟨k + 1, by go_num, HF.out (k + 1) hk HR.out (fun y _ hy => by rw [Nat.add_sub_cancel, HX.out] at hy; cases hy; exact hc), rfl⟩
      · have hc' : (m : Int) < (x.2 : Int) := by omega
        go_wp2
        refine ⟨⟨k, by omega, by go_num, fun j y hj hy => ?_⟩, by simp [intOf]⟩
        by_cases e : j = k
        · subst e; rw [HX.out] at hy; cases hy; omega
        · exact HR.out j y (by omega) hy
end Go.Proofs.Ytdiagnmkfnhnjaa
