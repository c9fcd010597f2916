/-
  Undo: Saves and first of package undo.
-/
import Derived.Test.YtdiagnmkfnhnjaaUdB
namespace Go.Proofs.Ytdiagnmkfnhnjaa
open Go.RowKit Rw

def stC (x : Sv) : List Value := [.string x.1]
theorem stC_len (x : Sv) : (stC x).length = 1 := rfl
theorem stC_one (x : Sv) : ∀ u ∈ stC x, u.oneCell' = true := by
  intro u hu
  simp [stC] at hu
  subst hu
  rfl

theorem infoStr : (Try.prog.info? 9).map (fun i => (i.zero, i.size, i.bytes)) = some (some (.string ⟨#[]⟩), 1, 16) := by kernel_rfl
theorem infoSav : (Try.prog.info? 69).map (fun i => (i.zero, i.size, i.bytes)) = some (some (.agg #[.string ⟨#[]⟩, .int .i64 0]), 2, 24) := by kernel_rfl

theorem take_snoc {α : Type} {S : List α} {j : Nat} {x : α} (h : S[j]? = some x) : S.take (j + 1) = S.take j ++ [x] := by
  obtain ⟨hj, rfl⟩ := List.getElem?_eq_some_iff.1 h
  rw [List.take_succ_eq_append_getElem hj]

set_option maxRecDepth 100000 in
set_option maxHeartbeats 1000000 in
theorem saves_walk {B l q : Nat} {v s : Value} {L : List PE} {S : List Sv} {w : World} (h : Lg B l q v s L S w) (hb : S.length ≤ 100000) :
    Calls Try.prog 22 #[.pointer (some ⟨l, 0, none⟩)] w fun e w' => ∃ v', e = .returned v' ∧ w'.ownsRow w.heap.size 9 1 v' S.length (flat stC S) ∧ Below w.heap.size w w' := by
  obtain ⟨-, -, x2, -, -, -, xl⟩ := h.facts
  obtain ⟨a, c, rfl⟩ := owns_slice h.sav
  have HG : Hid (∀ k W, k < S.length → Below w.heap.size w W → ∃ g x, a = some ⟨g, 0, none⟩ ∧ S[k]? = some x ∧ W.cell? ⟨g, k * 2, none⟩ = some (.string x.1) ∧ W.cell? ⟨g, k * 2 + 1, none⟩ = some (.int .i64 (x.2 : Int)) ∧ g < W.heap.size) := fun k W hk hW => by
    have hs := owns_on h.sav hW
    rcases owns_addr hs with ⟨-, h0, -⟩ | ⟨g, rfl⟩
    · omega
    · exact ⟨g, S[k], rfl, List.getElem?_eq_getElem hk, own_at svC_len hs (List.getElem?_eq_getElem hk) (i := 0) rfl, own_at svC_len hs (List.getElem?_eq_getElem hk) (i := 1) rfl, (own_fro hs 0).2⟩
  have HT : Hid (S.take S.length = S) := List.take_length
  clear h
  obtain ⟨n, HN⟩ : ∃ m, Hid (S.length = m) := ⟨_, rfl⟩
  rw [HN.out] at x2 hb HG HT ⊢
  go_enter Try.func22, Try.ntmps22
  go_wp2
  go_loopw [3, 13] (fun s i wr => ∃ j : Nat, j ≤ n ∧ i = .int .i64 (j : Int) ∧ Hid (wr.ownsRow w.heap.size 9 1 s j (flat stC (S.take j)) ∧ Below w.heap.size w wr)) (fun _ i _ => n - (intOf i).toNat)
  case atStart => exact ⟨0, Nat.zero_le _, rfl, World.ownsRow_nil _ _ _ _, Below.refl _ _⟩
  case round =>
    obtain ⟨j, hj, rfl, HI⟩ := hrel
    by_cases hlt : j < n
    · obtain ⟨g, x, rfl, hx, c0, c1, gl⟩ := HG.out j wr hlt HI.out.2
      have HX := dhid hx
      clear hx
      go_wp2_with (first | (at_builtin; revert HI) | go_in)
      intro HI
      refine to_letter (F := fun W => Below wr.heap.size wr W ∧ Src W (some ⟨wr.heap.size + 1, 0, none⟩) 1 1 (stC x)) ⟨(below_alloc wr _).alloc (by simp) _, src_new _ [.string x.1] _ 1 1 (by simp)⟩ ?_
      rintro U ⟨bU, sU⟩
      have o1 := owns_on HI.out.1 bU
      have b1 := below_on HI.out.2 bU HI.out.2.size
      refine append_src Try.underlying56 infoStr rfl (by decide) (by decide) rfl _ _ rfl w.heap.size b1.size _ j (flat stC (S.take j)) rfl o1 _ 1 1 (stC x) rfl sU rfl (stC_one x) (by omega) ?_
      intro v2 W2 O2 G2 _
      have e2 : flat stC (S.take j) ++ stC x = flat stC (S.take (j + 1)) := by rw [take_snoc HX.out, flat_append]; rfl
      rw [e2] at O2
      have HI2 := dhid (And.intro O2 (b1.grown G2 b1.size fun p hp => (o1.lt p hp).1))
      clear O2 G2 e2 o1 b1 bU sU HI
      go_wp2
      exact ⟨⟨j + 1, hlt, by go_num, HI2⟩, by simp [intOf]; omega⟩
    · have hjn : j = n := by omega
      subst hjn
      rw [HT.out] at HI
      go_wp2
      go_ret
      exact ⟨_, rfl, HI.out.1, HI.out.2⟩

def zeroE : Value := .agg #[.int .i64 0, .int .i64 0, .string ⟨#[]⟩, .slice none 0 0, .slice none 0 0]
def zeroS : Value := .agg #[.string ⟨#[]⟩, .int .i64 0]

theorem zerosE_len (n : Nat) : (Builtin.zeroCells zeroE.cells n).toList.length = n * 5 := by simp [Builtin.zeroCells, zeroE, Value.cells]
theorem zerosS_len (n : Nat) : (Builtin.zeroCells zeroS.cells n).toList.length = n * 2 := by simp [Builtin.zeroCells, zeroS, Value.cells]

theorem zerosE_one (n : Nat) : ∀ v ∈ (Builtin.zeroCells zeroE.cells n).toList, v.oneCell' = true := by
  intro v hv
  simp only [Builtin.zeroCells, Array.toList_map, List.mem_map] at hv
  obtain ⟨i, _, rfl⟩ := hv
  have e : zeroE.cells = #[.int .i64 0, .int .i64 0, .string ⟨#[]⟩, .slice none 0 0, .slice none 0 0] := rfl
  rw [e]
  have h4 : i % 5 = 0 ∨ i % 5 = 1 ∨ i % 5 = 2 ∨ i % 5 = 3 ∨ i % 5 = 4 := by omega
  show (#[Value.int .i64 0, .int .i64 0, .string ⟨#[]⟩, .slice none 0 0, .slice none 0 0][i % 5]!).oneCell' = true
  rcases h4 with h | h | h | h | h <;> rw [h] <;> rfl

theorem zerosS_one (n : Nat) : ∀ v ∈ (Builtin.zeroCells zeroS.cells n).toList, v.oneCell' = true := by
  intro v hv
  simp only [Builtin.zeroCells, Array.toList_map, List.mem_map] at hv
  obtain ⟨i, _, rfl⟩ := hv
  have e : zeroS.cells = #[.string ⟨#[]⟩, .int .i64 0] := rfl
  rw [e]
  have h4 : i % 2 = 0 ∨ i % 2 = 1 := by omega
  show (#[Value.string ⟨#[]⟩, .int .i64 0][i % 2]!).oneCell' = true
  rcases h4 with h | h <;> rw [h] <;> rfl

theorem run_clearE (w : World) (ty : TypeId) (b o n c : Nat) (hn : 0 < n) (hc : ∀ j, j < n * 5 → (w.cell? ⟨b, o + j, none⟩).isSome = true) (hf : ∀ j, j < n * 5 → w.frozen? ⟨b, o + j, none⟩ = false) :
    (Builtin.clear_ #[44] ty #[.slice (some ⟨b, o, none⟩) n c]).run Try.prog w = .ok (.tuple #[]) (w.setCells b o (Builtin.zeroCells zeroE.cells n).toList) := by
  have hst := run_storeCells_cells (P := Try.prog) b o (Builtin.zeroCells zeroE.cells n).toList 0 w (by rw [zerosE_len]; simpa using hc) (by rw [zerosE_len]; simpa using hf) (zerosE_one n)
  simp only [Nat.add_zero] at hst
  obtain ⟨m, rfl⟩ : ∃ m, n = m + 1 := ⟨n - 1, by omega⟩
  unfold zeroE at hst ⊢
  simp [Builtin.clear_, run_underlying Try.underlying44, hst]

theorem run_clearS (w : World) (ty : TypeId) (b o n c : Nat) (hn : 0 < n) (hc : ∀ j, j < n * 2 → (w.cell? ⟨b, o + j, none⟩).isSome = true) (hf : ∀ j, j < n * 2 → w.frozen? ⟨b, o + j, none⟩ = false) :
    (Builtin.clear_ #[62] ty #[.slice (some ⟨b, o, none⟩) n c]).run Try.prog w = .ok (.tuple #[]) (w.setCells b o (Builtin.zeroCells zeroS.cells n).toList) := by
  have hst := run_storeCells_cells (P := Try.prog) b o (Builtin.zeroCells zeroS.cells n).toList 0 w (by rw [zerosS_len]; simpa using hc) (by rw [zerosS_len]; simpa using hf) (zerosS_one n)
  simp only [Nat.add_zero] at hst
  obtain ⟨m, rfl⟩ : ∃ m, n = m + 1 := ⟨n - 1, by omega⟩
  unfold zeroS at hst ⊢
  simp [Builtin.clear_, run_underlying Try.underlying62, hst]

theorem run_clearE0 (w : World) (ty : TypeId) (a : Option Addr) (c : Nat) : (Builtin.clear_ #[44] ty #[.slice a 0 c]).run Try.prog w = .ok (.tuple #[]) w := by
  cases a <;> simp [Builtin.clear_, run_underlying Try.underlying44]
theorem run_clearS0 (w : World) (ty : TypeId) (a : Option Addr) (c : Nat) : (Builtin.clear_ #[62] ty #[.slice a 0 c]).run Try.prog w = .ok (.tuple #[]) w := by
  cases a <;> simp [Builtin.clear_, run_underlying Try.underlying62]

/-- What first makes of a row of n: its first m. -/
structure FirstO {α : Type} (f : α → List Value) (T k B : Nat) (a : Option Addr) (n c m : Nat) (L : List α) (w w' : World) : Prop where
  own : w'.ownsRow B T k (.slice a m c) m (flat f (L.take m))
  keep : ∀ q, Value.ownBlock (.slice a n c) ≠ some q → w'.heap[q]? = w.heap[q]?
  below : Below B w w'

theorem first_cells {W : World} {B e size g n c m : Nat} {xs : List Value} (h : W.ownsRow B e size (.slice (some ⟨g, 0, none⟩) n c) n xs) (hm : m < n) : (∀ j, j < (n - m) * size → (W.cell? ⟨g, m * size + j, none⟩).isSome = true) ∧ ∀ j, j < (n - m) * size → W.frozen? ⟨g, m * size + j, none⟩ = false := by
  rcases h.2 with ⟨e1, _⟩ | ⟨g', cap, cur, e1, g1, g2, g3, g4, g5, g6⟩
  · cases e1
  · cases e1
    refine ⟨fun j hj => ?_, fun j _ => frozen_of_row _ _ _ _ _ g2⟩
    have : m * size + j < cur.size := by
      rw [g5]
      have h1 : m * size + (n - m) * size = n * size := by rw [← Nat.add_mul, Nat.add_sub_cancel' (Nat.le_of_lt hm)]
      have h2 : n * size ≤ c * size := Nat.mul_le_mul_right _ g3
      omega
    rw [cell_of_row _ _ _ _ _ _ g2, Array.getElem?_eq_getElem this]; rfl

theorem part_cases {W : World} {base e size : Nat} {a : Option Addr} {n m c k : Nat} {xs : List Value} (h : W.ownsRow base e size (.slice a n c) m xs) : (a = none ∧ n = 0 ∧ c = 0) ∨ (∃ g, a = some ⟨g, 0, none⟩ ∧ c = k) ∨ ∃ g, a = some ⟨g, 0, none⟩ ∧ c ≠ k := by
  rcases owns_addr h with h | ⟨g, rfl⟩
  · exact Or.inl h
  · by_cases hc : c = k
    · exact Or.inr (Or.inl ⟨g, rfl, hc⟩)
    · exact Or.inr (Or.inr ⟨g, rfl, hc⟩)

set_option maxRecDepth 100000 in
set_option maxHeartbeats 1000000 in
theorem firstE_walk {B : Nat} {a : Option Addr} {n c m : Nat} {L : List PE} {w : World} (own : w.ownsRow B 35 5 (.slice a n c) n (flat peC L)) (hm : m ≤ n) :
    Calls Try.prog 30 #[.slice a n c, .int .i64 (m : Int)] w fun e w' => e = .returned (.slice a m c) ∧ FirstO peC 35 5 B a n c m L w w' := by
  have hnc := (owns_cap own).1
  by_cases hmn : m = n
  · subst hmn
    have HE := dhid (FirstO.mk (f := peC) (T := 35) (k := 5) (B := B) (a := a) (n := m) (c := c) (m := m) (L := L) (w := w) (w' := w) (own_take peC_len own (Nat.le_refl _)) (fun _ _ => rfl) (Below.refl _ _))
    rcases part_cases (k := m) own with ⟨rfl, h0, h1⟩ | ⟨g, rfl, h1⟩ | ⟨g, rfl, h1⟩
    · subst h0
      subst h1
      have hcl := fun ty => run_clearE0 w ty none 0
      clear own
      go_enter Try.func30, Try.ntmps30
      go_wp2
      go_ret
      exact ⟨rfl, HE.out⟩
    · subst h1
      have hcl := fun ty => run_clearE0 w ty (some ⟨g, 0, none⟩) 0
      clear own
      go_enter Try.func30, Try.ntmps30
      go_wp2
      go_ret
      exact ⟨rfl, HE.out⟩
    · have i1 : (m : Int) ≤ (c : Int) := by omega
      have i4 : ¬ c - m = 0 := by omega
      have i5 : ¬ c = m := h1
      have hcl := fun ty => run_clearE0 w ty (some ⟨g, m * 5, none⟩) (c - m)
      clear own
      go_enter Try.func30, Try.ntmps30
      go_wp2
      go_ret
      exact ⟨rfl, HE.out⟩
  · have hlt : m < n := by omega
    rcases owns_addr own with ⟨-, h0, -⟩ | ⟨g, rfl⟩
    · omega
    have hcl := fun ty => run_clearE w ty g (m * 5) (n - m) (c - m) (by omega) (first_cells own hlt).1 (first_cells own hlt).2
    have HE := dhid (FirstO.mk (f := peC) (T := 35) (k := 5) (B := B) (a := some ⟨g, 0, none⟩) (n := n) (c := c) (m := m) (L := L) (w := w) (own_cut peC_len own hm (Builtin.zeroCells zeroE.cells (n - m)).toList) (fun q hq => heap_sets_ne (fun e => hq (by rw [e]; rfl)) _ _ _) (below_sets (own.lt g rfl).1 _ _ _ (Below.refl _ _)))
    have i1 : (m : Int) ≤ (c : Int) := by omega
    have i2 : (m : Int) ≤ (n : Int) := by omega
    have i3 : (n : Int) ≤ (c : Int) := by omega
    have i4 : ¬ c - m = 0 := by omega
    have i5 : ¬ c = m := by omega
    clear own
    generalize w.setCells g (m * 5) (Builtin.zeroCells zeroE.cells (n - m)).toList = W1 at *
    go_enter Try.func30, Try.ntmps30
    go_wp2
    go_ret
    exact ⟨rfl, HE.out⟩

set_option maxRecDepth 100000 in
set_option maxHeartbeats 1000000 in
theorem firstS_walk {B : Nat} {a : Option Addr} {n c m : Nat} {L : List Sv} {w : World} (own : w.ownsRow B 69 2 (.slice a n c) n (flat svC L)) (hm : m ≤ n) :
    Calls Try.prog 27 #[.slice a n c, .int .i64 (m : Int)] w fun e w' => e = .returned (.slice a m c) ∧ FirstO svC 69 2 B a n c m L w w' := by
  have hnc := (owns_cap own).1
  by_cases hmn : m = n
  · subst hmn
    have HE := dhid (FirstO.mk (f := svC) (T := 69) (k := 2) (B := B) (a := a) (n := m) (c := c) (m := m) (L := L) (w := w) (w' := w) (own_take svC_len own (Nat.le_refl _)) (fun _ _ => rfl) (Below.refl _ _))
    rcases part_cases (k := m) own with ⟨rfl, h0, h1⟩ | ⟨g, rfl, h1⟩ | ⟨g, rfl, h1⟩
    · subst h0
      subst h1
      have hcl := fun ty => run_clearS0 w ty none 0
      clear own
      go_enter Try.func27, Try.ntmps27
      go_wp2
      go_ret
      exact ⟨rfl, HE.out⟩
    · subst h1
      have hcl := fun ty => run_clearS0 w ty (some ⟨g, 0, none⟩) 0
      clear own
      go_enter Try.func27, Try.ntmps27
      go_wp2
      go_ret
      exact ⟨rfl, HE.out⟩
    · have i1 : (m : Int) ≤ (c : Int) := by omega
      have i4 : ¬ c - m = 0 := by omega
      have i5 : ¬ c = m := h1
      have hcl := fun ty => run_clearS0 w ty (some ⟨g, m * 2, none⟩) (c - m)
      clear own
      go_enter Try.func27, Try.ntmps27
      go_wp2
      go_ret
      exact ⟨rfl, HE.out⟩
  · have hlt : m < n := by omega
    rcases owns_addr own with ⟨-, h0, -⟩ | ⟨g, rfl⟩
    · omega
    have hcl := fun ty => run_clearS w ty g (m * 2) (n - m) (c - m) (by omega) (first_cells own hlt).1 (first_cells own hlt).2
    have HE := dhid (FirstO.mk (f := svC) (T := 69) (k := 2) (B := B) (a := some ⟨g, 0, none⟩) (n := n) (c := c) (m := m) (L := L) (w := w) (own_cut svC_len own hm (Builtin.zeroCells zeroS.cells (n - m)).toList) (fun q hq => heap_sets_ne (fun e => hq (by rw [e]; rfl)) _ _ _) (below_sets (own.lt g rfl).1 _ _ _ (Below.refl _ _)))
    have i1 : (m : Int) ≤ (c : Int) := by omega
    have i2 : (m : Int) ≤ (n : Int) := by omega
    have i3 : (n : Int) ≤ (c : Int) := by omega
    have i4 : ¬ c - m = 0 := by omega
    have i5 : ¬ c = m := by omega
    clear own
    generalize w.setCells g (m * 2) (Builtin.zeroCells zeroS.cells (n - m)).toList = W1 at *
    go_enter Try.func27, Try.ntmps27
    go_wp2
    go_ret
    exact ⟨rfl, HE.out⟩
end Go.Proofs.Ytdiagnmkfnhnjaa
