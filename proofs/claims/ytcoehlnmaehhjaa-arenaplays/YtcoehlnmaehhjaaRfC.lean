/-
  The document's arena: New, zeros, At.
-/
import Derived.Test.YtcoehlnmaehhjaaRfB
namespace Go.Proofs.Ytcoehlnmaehhjaa
open Go.RowKit

set_option maxRecDepth 100000 in
theorem rnew_ok (q : Nat) (hq : q ≤ 4096) (w : World) : Calls Try.prog 10 #[.int .i64 q] w fun e w' => ∃ r, e = .returned (.tuple #[arV r.p, .bool true]) ∧ RfP r w' ∧ r.abs = ⟨[], [], 1, q⟩ ∧ Below w.heap.size w w' ∧ ∀ k, r.own k → w.heap.size ≤ k := by
  go_enter Try.func10, Try.ntmps10
  go_wp2
  go_ret2
  refine ⟨⟨_, .slice none 0 0, .slice none 0 0, [], [], 1, q⟩, rfl, ?_, rfl, below_alloc _ _, ?_⟩
  · exact ⟨heap_alloc_new _ _, World.ownsRow_nil _ _ _ _, World.ownsRow_nil _ _ _ _⟩
  · rintro k (rfl | h | h)
    · exact Nat.le_refl _
    · simp [Value.ownBlock] at h
    · simp [Value.ownBlock] at h

theorem rnew_no (q : Int) (h : mayB q = false) (w : World) : Calls Try.prog 10 #[.int .i64 q] w fun e w' => e = .returned (.tuple #[.pointer none, .bool false]) ∧ w' = w := by
  unfold mayB at h
  simp at h
  go_enter Try.func10, Try.ntmps10
  by_cases h0 : q < 0
  · go_wp2
    go_ret2
    exact ⟨rfl, rfl⟩
  · have h1 : 4096 < q := h (by omega)
    clear h
    go_wp2
    go_ret2
    exact ⟨rfl, rfl⟩

theorem bcs_zero : (madeCells #[.int .u8 0] 1024 : Array Value) = (bcs zeroP).toArray := by
  apply Array.ext'
  rw [toList_madeCells_one, List.toList_toArray]
  unfold bcs zeroP
  rw [List.map_replicate]
  rfl

theorem zeros_walk (w : World) : Calls Try.prog 30 #[] w fun e w' => e = .returned (.string (pstr zeroP)) ∧ Below w.heap.size w w' := by
  obtain ⟨Z, hZ⟩ : ∃ Z, Hid (Z = (bcs zeroP).toArray) := ⟨_, rfl⟩
  obtain ⟨G, hG⟩ : ∃ G, Hid (G = pstr zeroP) := ⟨_, rfl⟩
  have hmk : (Instr.makeSlice 40 (.int .i64 1024) (.int .i64 1024)).run Try.prog w = .ok (.slice (some ⟨w.heap.size, 0, none⟩) 1024 1024) (w.alloc (.cells Z 5)) := by
    rw [hZ.out, ← bcs_zero]
    exact run_make_row' 40 5 (.int .u8 0) 1 Try.underlying40 (by kernel_rfl) rfl .i64 .i64 1024 (by decide) (by decide) w
  have hcv : (convert 40 9 (.slice (some ⟨w.heap.size, 0, none⟩) 1024 1024)).run Try.prog (w.alloc (.cells Z 5)) = .ok (.string G) (w.alloc (.cells Z 5)) := by
    have hb : (w.alloc (.cells Z 5)).heap[w.heap.size]? = some (.cells (bcs zeroP).toArray 5 (0, 0)) := by rw [← hZ.out]; exact heap_alloc_new _ _
    have := conv_bs hb 1024
    rw [zeroP_length] at this
    rw [hG.out]
    exact this
  rw [← hG.out]
  go_enter Try.func30, Try.ntmps30
  go_wp2
  go_ret
  exact ⟨rfl, below_alloc _ _⟩

/-- What the row of pages has. -/
theorem RfP.page {r : Rf} {W : World} (h : RfP r W) {j : Nat} {x : Nat × List UInt8} (hx : r.L[j]? = some x) : ∃ g cap, r.vl = .slice (some ⟨g, 0, none⟩) r.L.length cap ∧ g < W.heap.size ∧ j < r.L.length ∧ r.L.length ≤ cap ∧ W.cell? ⟨g, j * 2, none⟩ = some (nv x.1) ∧ W.cell? ⟨g, j * 2 + 1, none⟩ = some (.string (pstr x.2)) ∧ W.frozen? ⟨g, j * 2 + 1, none⟩ = false := by
  have hm := (List.getElem?_eq_some_iff.1 hx).1
  have hr := h.rl
  obtain ⟨g, cap, hv, _, hg⟩ := hr.form (by omega)
  obtain ⟨_, cap', hv', _, hc⟩ := owns_slice hr
  rw [hv] at hr
  rw [hv] at hv'
  cases hv'
  obtain ⟨l1, l2⟩ := lcs_at r.L j x hx
  refine ⟨g, cap, hv, hg, hm, hc, ?_, ?_, hr.frozenAt _⟩
  · rw [hr.cellAt _ (by omega), l1]
  · rw [hr.cellAt _ (by omega), l2]

set_option maxRecDepth 100000 in
set_option maxHeartbeats 1000000 in
theorem at_walk {r : Rf} {w : World} (h : RfP r w) (hl : r.L.length ≤ 1000000) (n : Int) (k : Nat) (hk : k ≤ r.L.length) (hne : ∀ i x, i < k → r.L[i]? = some x → (x.1 : Int) ≠ n) (hend : k = r.L.length ∨ ∃ x, r.L[k]? = some x ∧ (x.1 : Int) = n) :
    Calls Try.prog 11 #[arV r.p, .int .i64 n] w fun e w' => e = .returned (.int .i64 (if k = r.L.length then -1 else (k : Int))) ∧ w' = w := by
  obtain ⟨c0, _, _, _, hp, _⟩ := h.cell
  obtain ⟨al, cl, el, _⟩ := owns_slice h.rl
  rw [el] at c0
  have HH : Hid (RfP r w) := h
  have EL : Hid (r.vl = .slice al r.L.length cl) := el
  have HN : Hid (∀ i x, i < k → r.L[i]? = some x → (x.1 : Int) ≠ n) := hne
  have HE : Hid (k = r.L.length ∨ ∃ x, r.L[k]? = some x ∧ (x.1 : Int) = n) := hend
  clear h el hne hend
  unfold arV
  go_enter Try.func11, Try.ntmps11
  go_wp2
  go_loop [5] (fun i => ∃ j : Nat, j ≤ k ∧ i = .int .i64 (j : Int)) (fun i => r.L.length - (intOf i).toNat)
  case atStart => exact ⟨0, by omega, rfl⟩
  case round =>
    obtain ⟨j, hj, rfl⟩ := hrel
    by_cases hlt : j < r.L.length
    · have hx : r.L[j]? = some r.L[j] := List.getElem?_eq_getElem hlt
      obtain ⟨g, cap, hv, hg, _, hc, e0, _, _⟩ := HH.out.page hx
      rw [EL.out] at hv
      cases hv
      unfold nv at e0
      by_cases hjk : j < k
      · have hb : ((r.L[j].1 : Int) == n) = false := by rw [beq_eq_false_iff_ne]; exact HN.out j _ hjk hx
        generalize (r.L[j].1 : Int) = y at *
        clear hx
        go_wp2
        exact ⟨⟨j + 1, by omega, by go_num⟩, by simp [intOf]; omega⟩
      · have hjk' : j = k := by omega
        subst hjk'
        have hb : ((r.L[j].1 : Int) == n) = true := by
          rcases HE.out with h1 | ⟨x, h1, h2⟩
          · omega
          · rw [hx] at h1
            cases h1
            simpa using h2
        have hne : ¬ j = r.L.length := by omega
        generalize (r.L[j].1 : Int) = y at *
        clear hx
        go_wp2
        go_ret
        exact ⟨rfl, rfl⟩
    · have hjl : j = r.L.length := by omega
      have hkl : k = r.L.length := by omega
      subst hkl
      subst hjl
      go_wp2
      go_ret
      exact ⟨rfl, rfl⟩

theorem at_some {r : Rf} {w : World} (h : RfP r w) (hl : r.L.length ≤ 1000000) (hd : (r.L.map Prod.fst).Nodup) {j m : Nat} {c : List UInt8} (hj : r.L[j]? = some (m, c)) : Calls Try.prog 11 #[arV r.p, .int .i64 (m : Int)] w fun e w' => e = .returned (.int .i64 (j : Int)) ∧ w' = w := by
  have hlt := (List.getElem?_eq_some_iff.1 hj).1
  have := at_walk h hl (m : Int) j (by omega) (fun i x hi hx e => by
    have := nodup_at hd hx hj (by have e' : (x.1 : Int) = (m : Int) := e; show x.1 = m; omega)
    omega) (Or.inr ⟨_, hj, rfl⟩)
  rwa [if_neg (by omega)] at this

theorem at_none {r : Rf} {w : World} (h : RfP r w) (hl : r.L.length ≤ 1000000) {n : Int} (hn : ∀ x ∈ r.L, (x.1 : Int) ≠ n) : Calls Try.prog 11 #[arV r.p, .int .i64 n] w fun e w' => e = .returned (.int .i64 (-1)) ∧ w' = w := by
  have := at_walk h hl n r.L.length (Nat.le_refl _) (fun i x _ hx => hn x (List.mem_of_getElem? hx)) (Or.inl rfl)
  rwa [if_pos rfl] at this
end Go.Proofs.Ytcoehlnmaehhjaa
