/-
  The walk of FaultUndoes.
-/
import Derived.Test.YtlkodnhkhhgimaaUndoesA
namespace Go.Proofs.Ytlkodnhkhhgimaa
open Go.RowKit

/-- The world in which FaultUndoes calls Undo. -/
abbrev undV (W : World) : World := (((W.alloc (.cells #[.slice none 0 0] 28)).alloc (bbox W.heap.size)).alloc (.cells #[.int .i64 0] 3)).alloc (.cells #[.int .i64 (-1)] 3)

theorem undV_facts (N0 : Nat) (W : World) : Below W.heap.size W (undV W) ∧ (undSt N0 W.heap.size (W.heap.size + 2) (W.heap.size + 3)).P (⟨.slice none 0 0, []⟩, 0, -1) (undV W) ∧ (undV W).heap[W.heap.size + 1]? = some (bbox W.heap.size) := by
  have b1 : Below W.heap.size W (W.alloc (.cells #[.slice none 0 0] 28)) := (Below.refl _ _).alloc (Nat.le_refl _) _
  have b4 : Below W.heap.size W (undV W) := ((b1.alloc (by simp) _).alloc (by simp <;> omega) _).alloc (by simp <;> omega) _
  refine ⟨b4, ⟨?_, ?_, ?_⟩, ?_⟩
  · refine (bkSt N0 W.heap.size).below (empty_book N0 W) ?_
    exact (((Below.refl _ _).alloc (Nat.le_refl _) _).alloc (by simp) _).alloc (by simp <;> omega) _
  · show (undV W).heap[W.heap.size + 2]? = _
    rw [Below.heap_alloc _ _ _ (by simp)]
    have := heap_alloc_new ((W.alloc (.cells #[.slice none 0 0] 28)).alloc (bbox W.heap.size)) (.cells #[.int .i64 0] 3)
    simpa using this
  · show (undV W).heap[W.heap.size + 3]? = _
    have := heap_alloc_new (((W.alloc (.cells #[.slice none 0 0] 28)).alloc (bbox W.heap.size)).alloc (.cells #[.int .i64 0] 3)) (.cells #[.int .i64 (-1)] 3)
    simpa using this
  · rw [Below.heap_alloc _ _ _ (by simp), Below.heap_alloc _ _ _ (by simp)]
    have := heap_alloc_new (W.alloc (.cells #[.slice none 0 0] 28)) (bbox W.heap.size)
    simpa using this

set_option maxRecDepth 100000 in
set_option maxHeartbeats 2000000 in
theorem undoes_walk (x : Option Addr) (c : Nat) (l : List Stp) (w : World) (hsz : szL l ≤ 1000000) (hlc : l.length ≤ c) (hat : StepsAt w x l) :
    Calls Try.prog 5 #[.slice x l.length c] w fun e w' => e = .returned (.bool true) ∧ Below w.heap.size w w' := by
  have HAT := hide hat
  clear hat
  have hmf : ∀ (fn : Fn) (first cap : Array Value) (w : World), (Instr.makeFunc fn first cap).run Try.prog w = .ok (.func fn first cap) w := fun _ _ _ _ => rfl
  go_enter Try.func5, Try.ntmps5
  go_wp2_with fail
  refine (awake_any _).mono ?_
  rintro e w1 ⟨rfl, hb1⟩
  have hz1 := hb1.size
  simp at hz1
  have hL1 : w1.heap[w.heap.size]? = some (lbox x l.length c) := by rw [hb1.block _ (by simp)]; exact heap_alloc_new w _
  have b1 : Below w.heap.size w w1 := ((Below.refl _ _).alloc (Nat.le_refl _) _).trans (hb1.mono (by simp))
  have HB1 := hide b1
  have HL1 := hide hL1
  have cl := cell_of_one hL1
  have ll := lt_of_block hL1
  clear hb1 hL1 b1 hz1
  go_wp2_with fail
  refine (great_any w l x c w1 (by omega) (unhide HAT) (unhide HB1)).mono ?_
  rintro e w' ⟨t, m, rfl, rfl⟩
  cases t with
  | true =>
    go_wp2_with fail
    go_ret
    exact ⟨rfl, below_drewN (unhide HB1) m⟩
  | false =>
    have hB : Below w.heap.size w (w1.drewN m) := below_drewN (unhide HB1) m
    have hLm : (w1.drewN m).heap[w.heap.size]? = some (lbox x l.length c) := unhide HL1
    have clm := cell_of_one hLm
    generalize w1.drewN m = W at hB hLm clm ⊢
    have HB := hide hB
    have HL := hide hLm
    have hN := hB.size
    clear HB1 HL1 cl ll hB hLm
    go_wp2_with fail
    obtain ⟨hbV, hPV, hBV⟩ := undV_facts w.heap.size W
    have hLV := (hbV.block _ (lt_of_block (unhide HL))).trans (unhide HL)
    have hbW := (unhide HB).trans (hbV.mono hN)
    refine (undo_law (w0 := w) hN (by omega) (W.heap.size + 1) w.heap.size ⟨.slice none 0 0, []⟩ rfl hsz hlc (unhide HAT) _ hbW hPV hBV hLV).mono ?_
    rintro e w2 ⟨v2, hT⟩
    have hl := runL_len l
    have hzr := runL_zero l
    rcases hT with ⟨h0, rfl, hP2, hm2⟩ | ⟨h0, rfl, hP2, hm2⟩
    · have hb2 := below_und hN (by omega) (by omega) hbW hPV hm2
      have hL2 := keep_und hPV hm2 (by decide) (by decide) (by decide) hLV
      have hb3 : Below w2.heap.size w2 (w2.alloc (.cells #[.int .i64 0, .int .i64 0] 31)) := (Below.refl _ _).alloc (Nat.le_refl _) _
      have C := hide (ref_any w (szL l + 1) l x c _ (by omega) hsz hlc (unhide HAT) (hb2.trans (hb3.mono hb2.size)))
      have hP3 := (undSt w.heap.size W.heap.size (W.heap.size + 2) (W.heap.size + 3)).below hP2 hb3
      have HP3 := hide hP3
      have HF3 : Hid ((w2.alloc (.cells #[.int .i64 0, .int .i64 0] 31)).heap[w2.heap.size]? = some (.cells #[.int .i64 0, .int .i64 0] 31 (0, 0))) := heap_alloc_new w2 _
      have HB4 := hide (hb2.trans (hb3.mono hb2.size))
      have cl2 := cell_of_one hL2
      have ll2 := lt_of_block hL2
      have hq0 := hzr h0
      rw [h0, hq0] at C
      clear hbV hPV hBV hLV hP2 hm2 hL2 hb3 hb2 hP3 h0 hq0 hzr hbW
      generalize (runL l).1 = m1 at *
      simp only [faultV]
      go_wp2_with fail
      refine (unhide C).mono ?_
      rintro e w4 ⟨v5, rfl, hO⟩
      have hP4 := (undSt w.heap.size W.heap.size (W.heap.size + 2) (W.heap.size + 3)).below (unhide HP3) hO.below
      have cB := cell_of_one hP4.2.1
      obtain ⟨cF0, cF1⟩ := two_cells ((hO.below.block _ (lt_of_block (unhide HF3))).trans (unhide HF3))
      have hbel := hide ((unhide HB4).trans (hO.below.mono (unhide HB4).size))
      simp only at cB
      clear hO hP4 C HP3 HF3 HB4 cl2 ll2 HL HB HAT
      go_wp2_with fail
      go_ret
      exact ⟨rfl, unhide hbel⟩
    · have hb2 := below_und hN (by omega) (by omega) hbW hPV hm2
      have hL2 := keep_und hPV hm2 (by decide) (by decide) (by decide) hLV
      have hB2 := keep_und hPV hm2 (by decide) (by decide) (by decide) hBV
      have hb3 : Below w2.heap.size w2 (w2.alloc (.cells #[.int .i64 (runL l).2.1, .int .i64 (runL l).2.2] 31)) := (Below.refl _ _).alloc (Nat.le_refl _) _
      have C := hide (ref_any w (szL l + 1) l x c _ (by omega) hsz hlc (unhide HAT) (hb2.trans (hb3.mono hb2.size)))
      have HP3 := hide ((undSt w.heap.size W.heap.size (W.heap.size + 2) (W.heap.size + 3)).below hP2 hb3)
      have HF3 : Hid ((w2.alloc (.cells #[.int .i64 (runL l).2.1, .int .i64 (runL l).2.2] 31)).heap[w2.heap.size]? = some (.cells #[.int .i64 (runL l).2.1, .int .i64 (runL l).2.2] 31 (0, 0))) := heap_alloc_new w2 _
      have HB3 := hide ((hb3.block _ (lt_of_block hB2)).trans hB2)
      have HB4 := hide (hb2.trans (hb3.mono hb2.size))
      have cl2 := cell_of_one hL2
      have ll2 := lt_of_block hL2
      clear hbV hPV hBV hLV hP2 hm2 hL2 hB2 hb3 hb2 hzr hbW
      generalize (runL l).1 = m1 at *
      generalize (runL l).2.1 = p1 at *
      generalize (runL l).2.2 = q1 at *
      have h0' : (p1 == 0) = false := by simpa using h0
      simp only [faultV]
      go_wp2_with fail
      refine (unhide C).mono ?_
      rintro e w4 ⟨v5, rfl, hO⟩
      have hP4 := (undSt w.heap.size W.heap.size (W.heap.size + 2) (W.heap.size + 3)).below (unhide HP3) hO.below
      have cB := cell_of_one hP4.2.1
      have cA := cell_of_one hP4.2.2
      have cBB := cell_of_one ((hO.below.block _ (lt_of_block (unhide HB3))).trans (unhide HB3))
      have cK := cell_of_one hP4.1.1
      obtain ⟨y, cap, hv⟩ := marksAt_len (marksAt_of_own hP4.1.2)
      obtain ⟨cF0, cF1⟩ := two_cells ((hO.below.block _ (lt_of_block (unhide HF3))).trans (unhide HF3))
      have hbel := hide ((unhide HB4).trans (hO.below.mono (unhide HB4).size))
      simp only at cB cA cK hv
      rw [hv] at cK
      clear hO hP4 C HP3 HF3 HB3 HB4 cl2 ll2 HL HB HAT hv
      go_wp2_with fail
      go_quiet (fail)
      go_wp2_with fail
      go_ret
      exact ⟨rfl, below_drewN (unhide hbel) _⟩

end Go.Proofs.Ytlkodnhkhhgimaa
