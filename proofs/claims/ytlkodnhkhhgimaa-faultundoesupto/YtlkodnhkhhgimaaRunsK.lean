/-
  The walk of FaultRuns.
-/
import Derived.Test.YtlkodnhkhhgimaaRunsI
import Derived.Test.YtlkodnhkhhgimaaRunsD
import Derived.Test.YtlkodnhkhhgimaaRunsJ
namespace Go.Proofs.Ytlkodnhkhhgimaa
open Go.RowKit

theorem calls_l1 (args : Array Value) (w : World) : (callFunc 10 args).run Try.prog w = .ok (.enter 10 args) w := by simp [go_sem]

/-- The variable l of a law. -/
abbrev lbox (x : Option Addr) (n c : Nat) : Obj := .cells #[.slice x n c] 22 (0, 0)

theorem l1_does {w0 : World} {bk : Nat} (hbk : w0.heap.size ≤ bk) (BB LB : Nat) {x : Option Addr} {c : Nat} {l : List Stp} (s : Bk) (h2 : szL l ≤ 1000000) (h3 : s.ms.length + 2 * szL l ≤ 4000000) (h4 : l.length ≤ c) (h5 : StepsAt w0 x l) (W : World) (hb : Below w0.heap.size w0 W) (hP : (bkSt w0.heap.size bk).P s W)
    (hB : W.heap[BB]? = some (bbox bk)) (hL : W.heap[LB]? = some (lbox x l.length c)) : Does w0 bk 10 #[.pointer (some ⟨BB, 0, none⟩), .pointer (some ⟨LB, 0, none⟩)] l s W := by
  have C := hide (run_any w0 bk hbk (szL l + 1) l x c W s (by omega) h2 h3 h4 h5 hb hP)
  have e1 := cell_of_one hB
  have e2 := cell_of_one hL
  clear h2 h3 h4 h5 hb hP hB hL
  unfold Does
  go_enter Try.func10, Try.ntmps10
  go_wp2_with fail
  refine (unhide C).mono ?_
  rintro e w1 ⟨v', h1, h2, h3⟩
  rcases h3 with ⟨h0, rfl⟩ | ⟨h0, rfl⟩
  · go_wp2_with fail
    go_end0
    exact does_of ⟨v', h1, h2, Or.inl ⟨h0, rfl⟩⟩
  · exact ⟨rfl, does_of ⟨v', h1, h2, Or.inr ⟨h0, rfl⟩⟩⟩

/-- An empty book. -/
theorem empty_book (N0 : Nat) (w : World) : (bkSt N0 w.heap.size).P ⟨.slice none 0 0, []⟩ (w.alloc (.cells #[.slice none 0 0] 28)) :=
  ⟨heap_alloc_new w _, World.ownsRow_nil _ _ _ _⟩

theorem catch_l1 {w0 : World} {bk : Nat} (hbk : w0.heap.size ≤ bk) (BB LB : Nat) {x : Option Addr} {c : Nat} {l : List Stp} (s : Bk) (h2 : szL l ≤ 1000000) (h3 : s.ms.length + 2 * szL l ≤ 4000000) (h4 : l.length ≤ c) (h5 : StepsAt w0 x l) (w : World) (hb : Below w0.heap.size w0 w) (hP : (bkSt w0.heap.size bk).P s w)
    (hB : w.heap[BB]? = some (bbox bk)) (hL : w.heap[LB]? = some (lbox x l.length c)) :
    Calls Try.prog 9 #[.func (.func 10) #[] #[.pointer (some ⟨BB, 0, none⟩), .pointer (some ⟨LB, 0, none⟩)]] w fun e w' => ∃ v', e = .returned (faultV (runL l).2.1 (runL l).2.2) ∧
      (bkSt w0.heap.size bk).P ⟨v', s.ms ++ (runL l).1⟩ w' ∧ Moves (bkSt w0.heap.size bk) s ⟨v', s.ms ++ (runL l).1⟩ w w' := by
  have hbw := below_catchW w
  refine (catch_st (bkSt w0.heap.size bk) 10 calls_l1 _ w s hP (fun e s' => s'.ms = s.ms ++ (runL l).1 ∧ Outc (runL l).2.1 (runL l).2.2 e)
    (l1_does hbk BB LB s h2 h3 h4 h5 (catchW w) (hb.trans (hbw.mono hb.size)) ((bkSt w0.heap.size bk).below hP hbw) (by rw [hbw.block _ (lt_of_block hB)]; exact hB) (by rw [hbw.block _ (lt_of_block hL)]; exact hL))).mono ?_
  rintro e w' ⟨e1, s', c, a, t, ⟨hms, hout⟩, hc, rfl, hP', hm⟩
  obtain ⟨rfl, rfl, -⟩ := hout.fault (runL_zero l) hc
  cases s' with
  | mk v' ms' =>
    simp only at hms
    subst hms
    exact ⟨v', rfl, hP', hm⟩

/-- Two cells of a fault. -/
theorem two_cells {W : World} {b : Nat} {c a : Int} (h : W.heap[b]? = some (.cells #[.int .i64 c, .int .i64 a] 31 (0, 0))) : W.cell? ⟨b, 0, none⟩ = some (.int .i64 c) ∧ W.cell? ⟨b, 1, none⟩ = some (.int .i64 a) := by
  simp [World.cell?, h]

set_option maxRecDepth 100000 in
set_option maxHeartbeats 2000000 in
theorem runs_walk (x : Option Addr) (c : Nat) (l : List Stp) (w : World) (hsz : szL l ≤ 1000000) (hlc : l.length ≤ c) (hat : StepsAt w x l) :
    Calls Try.prog 3 #[.slice x l.length c] w fun e w' => e = .returned (.bool true) ∧ Below w.heap.size w w' := by
  have HAT := hide hat
  clear hat
  have hmf : ∀ (fn : Fn) (first cap : Array Value) (w : World), (Instr.makeFunc fn first cap).run Try.prog w = .ok (.func fn first cap) w := fun _ _ _ _ => rfl
  go_enter Try.func3, Try.ntmps3
  go_wp2_with fail
  refine (awake_any _).mono ?_
  rintro e w1 ⟨rfl, hb1⟩
  have hz1 := hb1.size
  simp at hz1
  have hL1 : w1.heap[w.heap.size]? = some (lbox x l.length c) := by rw [hb1.block _ (by simp)]; exact heap_alloc_new w _
  have b1 : Below w.heap.size w w1 := ((Below.refl _ _).alloc (Nat.le_refl _) _).trans (hb1.mono (by simp))
  have HB1 := hide b1
  have HL1 := hide hL1
  have cl := cell_of_one hL1
  have ll := lt_of_block hL1
  clear hb1 hL1 b1 hz1
  go_wp2_with fail
  refine (great_any w l x c w1 (by omega) (unhide HAT) (unhide HB1)).mono ?_
  rintro e w' ⟨t, m, rfl, rfl⟩
  cases t with
  | true =>
    go_wp2_with fail
    go_ret
    exact ⟨rfl, below_drewN (unhide HB1) m⟩
  | false =>
    have hB : Below w.heap.size w (w1.drewN m) := below_drewN (unhide HB1) m
    have hLm : (w1.drewN m).heap[w.heap.size]? = some (lbox x l.length c) := unhide HL1
    have clm := cell_of_one hLm
    generalize w1.drewN m = W at hB hLm clm ⊢
    have HB := hide hB
    have HL := hide hLm
    have hN := hB.size
    clear HB1 HL1 cl ll hB hLm
    go_wp2_with fail
    have hbV : Below W.heap.size W ((W.alloc (.cells #[.slice none 0 0] 28)).alloc (bbox W.heap.size)) := ((Below.refl _ _).alloc (Nat.le_refl _) _).alloc (by simp) _
    have hPV : (bkSt w.heap.size W.heap.size).P ⟨.slice none 0 0, []⟩ ((W.alloc (.cells #[.slice none 0 0] 28)).alloc (bbox W.heap.size)) := (bkSt w.heap.size W.heap.size).below (empty_book w.heap.size W) ((Below.refl _ _).alloc (Nat.le_refl _) _)
    have hBV : ((W.alloc (.cells #[.slice none 0 0] 28)).alloc (bbox W.heap.size)).heap[W.heap.size + 1]? = some (bbox W.heap.size) := by
      have := heap_alloc_new (W.alloc (.cells #[.slice none 0 0] 28)) (bbox W.heap.size)
      simpa using this
    have hLV := (hbV.block _ (lt_of_block (unhide HL))).trans (unhide HL)
    refine (catch_l1 (w0 := w) hN (W.heap.size + 1) w.heap.size ⟨.slice none 0 0, []⟩ hsz (by simp; omega) hlc (unhide HAT) _ ((unhide HB).trans (hbV.mono hN)) hPV hBV hLV).mono ?_
    rintro e w2 ⟨v2, rfl, hP2, hm2⟩
    have hl := runL_len l
    have hb2 := below_moves hN ((unhide HB).trans (hbV.mono hN)) hPV hm2
    have hB2 := keep_block hPV hm2 (by decide) (by decide) hBV
    have hL2 := keep_block hPV hm2 (by decide) (by decide) hLV
    simp only [List.nil_append] at hP2
    have hb3 : Below w2.heap.size w2 (w2.alloc (.cells #[.int .i64 (runL l).2.1, .int .i64 (runL l).2.2] 31)) := (Below.refl _ _).alloc (Nat.le_refl _) _
    have C := hide (ref_any w (szL l + 1) l x c (w2.alloc (.cells #[.int .i64 (runL l).2.1, .int .i64 (runL l).2.2] 31)) (by omega) hsz hlc (unhide HAT) (hb2.trans (hb3.mono hb2.size)))
    have HP3 := hide ((bkSt w.heap.size W.heap.size).below hP2 hb3)
    have HB3 := hide ((hb3.block _ (lt_of_block hB2)).trans hB2)
    have hL3 := (hb3.block _ (lt_of_block hL2)).trans hL2
    have HF3 : Hid ((w2.alloc (.cells #[.int .i64 (runL l).2.1, .int .i64 (runL l).2.2] 31)).heap[w2.heap.size]? = some (.cells #[.int .i64 (runL l).2.1, .int .i64 (runL l).2.2] 31 (0, 0))) := heap_alloc_new w2 _
    have HB4 := hide (hb2.trans (hb3.mono hb2.size))
    have cl2 := cell_of_one hL2
    have ll2 := lt_of_block hL2
    clear hbV hPV hBV hLV hP2 hm2 hB2 hL2 hb3 hb2 hL3
    generalize (runL l).1 = m1 at *
    generalize (runL l).2.1 = p1 at *
    generalize (runL l).2.2 = q1 at *
    simp only [faultV]
    go_wp2_with fail
    refine (unhide C).mono ?_
    rintro e w4 ⟨v5, rfl, hO⟩
    have hP4 := (bkSt w.heap.size W.heap.size).below (unhide HP3) hO.below
    have cB := cell_of_one ((hO.below.block _ (lt_of_block (unhide HB3))).trans (unhide HB3))
    have cK := cell_of_one hP4.1
    obtain ⟨cF0, cF1⟩ := two_cells ((hO.below.block _ (lt_of_block (unhide HF3))).trans (unhide HF3))
    have hbel := hide ((unhide HB4).trans (hO.below.mono (unhide HB4).size))
    have D := hide (same_any w4 v2 v5 m1 (by omega) (marksAt_of_own hP4.2) (marksAt_of_own hO.own))
    clear hO hP4 C HP3 HB3 HF3 HB4 cl2 ll2 HL HB HAT
    go_wp2_with (go_at_call 13; refine (unhide D).mono ?_; rintro e w5 ⟨rfl, m, rfl⟩)
    go_ret
    exact ⟨rfl, below_drewN (unhide hbel) _⟩

end Go.Proofs.Ytlkodnhkhhgimaa
