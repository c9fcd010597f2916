/-
  Lex: texts of tokens, plain; a text as both packages show it.
-/
import Derived.Lib.AppendIntMem
import Derived.Lib.ItoaMem
import Derived.Lib.Join
import Derived.Test.YtfokllgfejcehaaDoorDigitsW
import Derived.Test.YtfokllgfejcehaaDoorLxH
namespace Go.Proofs.YtfokllgfejcehaaDoor
open Go.RowKit

set_option maxRecDepth 100000 in
set_option maxHeartbeats 1000000 in
theorem lshow_text (s : ByteArray) (hs : s.size ≤ 2147483647) (m : Int) (w : World) (hl : 2 < w.heap.size) (hm : w.cell? ⟨2, 0, none⟩ = some (.int .i64 m)) :
    Calls Tryd.prog 23 #[.agg #[.int .i64 3, .int .i64 0, .string s]] w fun e w' => e = .returned (.string (quoteB s)) ∧ Below w.heap.size w w' := by
  go_enter Tryd.func23, Tryd.ntmps23
  go_wp2_with fail
  refine (Tryd.strings_ReplaceAll s ⟨#[39]⟩ ⟨#[39, 39]⟩ m _ (by omega) ?_ (by decide) (count_fits s hs)).mono ?_
  · rw [(lxbelow w _).cell hl]; exact hm
  rintro e w1 ⟨rfl, hb⟩
  replace hb := lxon (lxbelow w _) hb
  have hL := repl_length s
  go_wp2
  go_ret
  exact ⟨by rw [quote_repl]; rfl, hb⟩

theorem leach_next (s : ByteArray) (j : Nat) (h : j < s.size) : each 39 [39, 39] (s.data.toList.take (j + 1)) = each 39 [39, 39] (s.data.toList.take j) ++ (if s[j] == 39 then [39, 39] else [s[j]]) := by
  rw [List.take_succ_eq_append_getElem (by rw [bsz]; exact h)]
  simp [each]
  rfl

theorem lextract_one (s : ByteArray) (j : Nat) (h : j < s.size) : s.extract j (j + 1) = ⟨#[s[j]]⟩ := by
  apply ByteArray.ext
  apply Array.ext'
  rw [ByteArray.data_extract, Array.toList_extract, List.extract_eq_take_drop]
  rw [List.drop_eq_getElem_cons (show j < s.data.toList.length from h), show j + 1 - j = 1 by omega]
  rfl

theorem mkB_append (a b : List UInt8) : mkB (a ++ b) = mkB a ++ mkB b := by
  apply ByteArray.ext
  simp [mkB]

theorem quote_mkB (s : ByteArray) : quoteB s = mkB (39 :: each 39 [39, 39] s.data.toList) ++ ⟨#[39]⟩ := by
  rw [quoteB]
  apply ByteArray.ext
  simp [mkB]

set_option maxRecDepth 100000 in
set_option maxHeartbeats 1000000 in
theorem lrshow_text (s : ByteArray) (hs : s.size ≤ 100000) (w : World) :
    Calls Tryd.prog 26 #[.agg #[.int .i64 3, .int .i64 0, .string s]] w fun e w' => e = .returned (.string (quoteB s)) ∧ Below w.heap.size w w' := by
  go_enter Tryd.func26, Tryd.ntmps26
  have B0 := lxbelow w (.cells #[.int .i64 3, .int .i64 0, .string s] 56)
  have a2 : (w.alloc (.cells #[.int .i64 3, .int .i64 0, .string s] 56)).cell? ⟨w.heap.size, 2, none⟩ = some (.string s) := by simp [go_sem]
  go_wp2
  generalize w.alloc (.cells #[.int .i64 3, .int .i64 0, .string s] 56) = W at *
  go_loop [3, 4] (fun t i => ∃ j : Nat, j ≤ s.size ∧ i = .int .i64 (j : Int) ∧ t = .string (mkB (39 :: each 39 [39, 39] (s.data.toList.take j)))) (fun _ i => s.size - (intOf i).toNat)
  case atStart => exact ⟨0, Nat.zero_le _, rfl, rfl⟩
  case round =>
    obtain ⟨j, hj, rfl, rfl⟩ := hrel
    have hel := each_length 39 [39, 39] (s.data.toList.take j) (by decide)
    have htl : (s.data.toList.take j).length ≤ j := List.length_take_le _ _
    have hsz : (mkB (39 :: each 39 [39, 39] (s.data.toList.take j))).size ≤ 300000 := by
      rw [mkB_size]
      simp only [List.length_cons]; omega
    clear hel htl
    by_cases hlt : j < s.size
    · have HN := leach_next s j hlt
      have HX : Hid _ := lextract_one s j hlt
      have hsl : ∀ W, (Instr.slice 9 (.string s) (some (.int .i64 (j : Int))) (some (.int .i64 ((j : Int) + 1))) none).run Tryd.prog W = .ok (.string ⟨#[s[j]]⟩) W := fun W => by
        rw [run_slice_string W 9 s .i64 .i64 (j : Int) ((j : Int) + 1) Tryd.underlying9 (by omega) (by omega) (by omega)]
        rw [show (j : Int).toNat = j by omega, show ((j : Int) + 1).toNat = j + 1 by omega, HX.out]
      cases hc : (s[j] == 39)
      · rw [hc] at HN
        have hi : ((s[j].toNat : Int) == 39) = false := by
          rw [beq_eq_false_iff_ne] at hc ⊢
          intro e
          exact hc (UInt8.toNat_inj.1 (by simp; omega))
        have HE : Hid (mkB (39 :: each 39 [39, 39] (s.data.toList.take (j + 1))) = mkB (39 :: each 39 [39, 39] (s.data.toList.take j)) ++ ⟨#[s[j]]⟩) := by
          show _ = _
          rw [HN, ← List.cons_append, mkB_append]
          rfl
        clear HN hc
        go_wp2
        exact ⟨⟨j + 1, hlt, by go_num, by rw [HE.out]⟩, by simp [intOf]; omega⟩
      · rw [hc] at HN
        have hi : ((s[j].toNat : Int) == 39) = true := by
          rw [beq_iff_eq] at hc ⊢
          rw [hc]; rfl
        have HE : Hid (mkB (39 :: each 39 [39, 39] (s.data.toList.take (j + 1))) = mkB (39 :: each 39 [39, 39] (s.data.toList.take j)) ++ ⟨#[s[j]]⟩ ++ ⟨#[39]⟩) := by
          show _ = _
          rw [beq_iff_eq] at hc
          rw [HN, ← List.cons_append, mkB_append, hc]
          apply ByteArray.ext
          simp [mkB]
        clear HN hc
        go_wp2
        exact ⟨⟨j + 1, hlt, by go_num, by rw [HE.out]⟩, by simp [intOf]; omega⟩
    · have hjs : j = s.size := by omega
      subst hjs
      have ht : s.data.toList.take s.size = s.data.toList := List.take_of_length_le (by rw [bsz]; exact Nat.le_refl _)
      rw [ht] at hsz ⊢
      have HE : Hid (quoteB s = mkB (39 :: each 39 [39, 39] s.data.toList) ++ ⟨#[39]⟩) := quote_mkB s
      go_wp2
      go_ret
      refine ⟨?_, B0⟩
      rw [HE.out]
      rfl

/-- The powers of ten lie where the program lays them. -/
def LTab (w : World) : Prop := Lib.TabIs Tryd.prog w "internal/strconv.uint64pow10" .u64 Lib.pow10Tab
theorem LTab.on {w w' : World} (h : LTab w) (hb : Below w.heap.size w w') : LTab w' := (Lib.tabBelow_of_tabIs h) w' hb

/-- A token's text, where it has one. -/
def tkT (t : Tk) : Option ByteArray := if t.kind = 1 ∨ t.kind = 2 ∨ t.kind = 5 then some t.s else if t.kind = 3 then some (mkB (Lib.itoa t.n)) else if t.kind = 4 then some (quoteB t.s) else none
def textsL (l : List Tk) : List ByteArray := l.filterMap tkT
def joinB (xs : List ByteArray) : ByteArray := mkB (Lib.join (xs.map (·.data.toList)) [32])

theorem joinB_nil : joinB [] = mkB [] := rfl
theorem joinB_one (x : ByteArray) : joinB [x] = x := by rw [joinB, List.map_cons, List.map_nil, Lib.join_one, mkB_of]
theorem joinB_snoc {xs : List ByteArray} (h : xs ≠ []) (x : ByteArray) : joinB (xs ++ [x]) = joinB xs ++ ⟨#[32]⟩ ++ x := by
  cases xs with
  | nil => exact absurd rfl h
  | cons y r =>
    unfold joinB
    rw [List.cons_append, List.map_cons, List.map_cons, Lib.join_cons, Lib.join_cons, List.map_append, Lib.joinTail, Lib.joinTail, List.map_append, List.flatten_append]
    apply ByteArray.ext
    simp [mkB]

theorem lens_le (N : Nat) : ∀ xs : List ByteArray, (∀ x ∈ xs, x.size ≤ N) → Lib.lens (xs.map (·.data.toList)) ≤ xs.length * N
  | [], _ => by simp [Lib.lens]
  | y :: r, h => by
    have h1 := lens_le N r fun x hx => h x (List.mem_cons_of_mem _ hx)
    have h2 := h y List.mem_cons_self
    have h3 := bsz y
    simp only [Lib.lens, List.map_cons, List.sum_cons, List.length_cons, Nat.add_mul, Nat.one_mul] at h1 ⊢
    omega

theorem joinB_size (xs : List ByteArray) (N : Nat) (h : ∀ x ∈ xs, x.size ≤ N) : (joinB xs).size ≤ xs.length * (N + 1) := by
  cases xs with
  | nil => rw [joinB_nil, mkB_size]; simp
  | cons y r =>
    have hl := lens_le N (y :: r) h
    rw [joinB, mkB_size, List.map_cons, Lib.join_length]
    rw [List.map_cons] at hl
    simp only [List.length_cons, List.length_map, List.length_nil, Nat.mul_add, Nat.mul_one] at hl ⊢
    omega

theorem quote_size (s : ByteArray) : (quoteB s).size ≤ 2 * s.size + 2 := by
  rw [quote_mkB]
  have h := each_length 39 [39, 39] s.data.toList (by decide)
  rw [bsz] at h
  rw [ByteArray.size_append, mkB_size]
  simp only [List.length_cons]
  have : (⟨#[39]⟩ : ByteArray).size = 1 := rfl
  omega

theorem itoa_size (n : Int) (h : fits n = true) : (mkB (Lib.itoa n)).size ≤ 30 := by
  rw [fits_iff] at h
  rw [mkB_size]
  have e25 : (10 : Nat) ^ (24 + 1) = 10000000000000000000000000 := by decide
  unfold Lib.itoa
  split
  · have := dec_len 24 n.natAbs (by rw [e25]; omega)
    simp only [List.length_cons]
    omega
  · have := dec_len 24 n.toNat (by rw [e25]; omega)
    omega

/-- A token that fits: what comes in, or is cut. -/
def TkOk (N : Nat) (t : Tk) : Prop := fits t.n = true ∧ t.s.size ≤ N

theorem tkT_size {N : Nat} {t : Tk} {x : ByteArray} (h : TkOk N t) (hx : tkT t = some x) : x.size ≤ 2 * N + 30 := by
  unfold tkT at hx
  split at hx
  · cases hx; have := h.2; omega
  split at hx
  · cases hx; have := itoa_size t.n h.1; omega
  split at hx
  · cases hx; have := quote_size t.s; have := h.2; omega
  · cases hx

theorem texts_size {N : Nat} {l : List Tk} (h : ∀ t ∈ l, TkOk N t) : (∀ x ∈ textsL l, x.size ≤ 2 * N + 30) ∧ (textsL l).length ≤ l.length := by
  refine ⟨fun x hx => ?_, List.length_filterMap_le _ _⟩
  obtain ⟨t, ht, hx⟩ := List.mem_filterMap.1 hx
  exact tkT_size (h t ht) hx

theorem texts_snoc (l : List Tk) (t : Tk) : textsL (l ++ [t]) = textsL l ++ (match tkT t with | some x => [x] | none => []) := by
  unfold textsL
  rw [List.filterMap_append]
  congr 1
  cases h : tkT t <;> simp [List.filterMap, h]
end Go.Proofs.YtfokllgfejcehaaDoor
