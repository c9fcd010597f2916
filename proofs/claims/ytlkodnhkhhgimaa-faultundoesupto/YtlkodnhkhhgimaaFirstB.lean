/-
  The walk of FaultFirst.
-/
import Derived.Test.YtlkodnhkhhgimaaFirstA
import Derived.Deep.QuietTactic
import Derived.BigQuiet
namespace Go.Proofs.Ytlkodnhkhhgimaa
open Go.RowKit

theorem Try.infoFunc : (Try.prog.info? 1).map (fun i => (i.zero, i.size, i.bytes)) = some (some .nilFunc, 1, 8) := by kernel_rfl

/-- A slice of ints that came in. -/
def IsInts (w : World) (a : Option Addr) (len : Nat) (zs : List Int) : Prop :=
  len = 0 ∨ ∃ b o, a = some ⟨b, o, none⟩ ∧ ∀ i, i < len → w.cell? ⟨b, o + i, none⟩ = some (.int .i64 (zs.getD i 0))

set_option maxHeartbeats 400000 in
theorem first_long (a : Option Addr) (len cap : Nat) (h : 300 < len) (w : World) :
    Calls Try.prog 6 #[.slice a len cap] w fun e w' => e = .returned (.bool true) ∧ Below w.heap.size w w' := by
  go_enter Try.func6, Try.ntmps6
  go_wp2_with fail
  refine (awake_any _).mono ?_
  rintro e w1 ⟨rfl, hb1⟩
  go_wp2
  go_ret
  exact ⟨rfl, hb1⟩

theorem news_one (W : World) (v : Value) (t : TypeId) (n : Nat) (hn : n = W.heap.size) : ∀ j u, [v][j]? = some u → (W.alloc (.cells #[v] t)).cell? ((⟨n, 0, none⟩ : Addr).add j) = some u := by
  subst hn
  intro j u hj
  match j, hj with
  | 0, hj => simp at hj; subst hj; simp [Addr.add, go_sem]

/-- What First answers of the functions, and how often they were called. -/
theorem first_calls (B p : Nat) (hBp : B ≤ p) (zs : List Int) (w : World) (v : Value) (n : Nat) (hn : n ≤ 300) (cb ib : Nat → Nat) (wr : World) (h : Rnd B p zs w v n cb ib wr) :
    Calls Try.prog 22 #[v] wr fun e w' => Below B w w' ∧ p < w'.heap.size ∧
      ((firstNZ zs n < 0 ∧ e = .returned (.tuple #[.int .i64 (-1), faultV 0 0]) ∧ w'.heap[p]? = some (box n)) ∨
       ∃ f : Nat, f < n ∧ firstNZ zs n = f ∧ e = .returned (.tuple #[.int .i64 f, faultV (zs.getD f 0) f]) ∧ w'.heap[p]? = some (box (f + 1 : Nat))) := by
  have hrow : ∃ sl cap, v = .slice sl n cap ∧ FnRow wr ((cntSt p).own 0) sl n (fun _ => 21) (fun j => #[.pointer (some ⟨p, 0, none⟩), .pointer (some ⟨cb j, 0, none⟩), .pointer (some ⟨ib j, 0, none⟩)]) := by
    rcases h.row.2 with ⟨rfl, rfl⟩ | ⟨g, cap, cur, rfl, hb, hg, -⟩
    · exact ⟨_, _, rfl, Or.inl rfl⟩
    · refine ⟨_, _, rfl, Or.inr ⟨g, 0, rfl, lt_of_block hg, fun e => ?_, fun i hi => ?_⟩⟩
      · have := h.other h.cnt
        simp only [Value.ownBlock] at this
        exact this (by rw [show g = p from e])
      · have := h.row.cells (g := g) rfl i (fnV p cb ib i) (by simp [hi])
        rw [show ((⟨g, 0, none⟩ : Addr).add i) = ⟨g, 0 + i, none⟩ from by unfold Addr.add; split <;> simp_all] at this
        exact this
  obtain ⟨sl, cap, rfl, hfn⟩ := hrow
  refine (first_st (cntSt p) n (by omega) (fun _ => 21) _ (fun i _ => calls_f1) sl cap wr 0 h.cnt hfn (fun j s => s = j ∧ ∀ i, i < j → zs.getD i 0 = 0)
    (fun j c a s => s = j + 1 ∧ c = zs.getD j 0 ∧ a = j ∧ zs.getD j 0 ≠ 0 ∧ ∀ i, i < j → zs.getD i 0 = 0) ⟨rfl, fun i hi => by omega⟩ ?_).mono ?_
  · rintro j hj W s' ⟨rfl, hz⟩ hP hm
    obtain ⟨b1, b2, b3, b4⟩ := h.boxes s' hj
    have hPp : W.heap[p]? = some (box s') := hP
    have c1 : W.heap[cb s']? = some (box (zs.getD s' 0)) := by rw [hm.only.block _ (lt_of_block b1) (fun e => b3 e)]; exact b1
    have c2 : W.heap[ib s']? = some (box s') := by rw [hm.only.block _ (lt_of_block b2) (fun e => b4 e)]; exact b2
    obtain ⟨m1, m2⟩ := cnt_moves p s' (s' + 1) W hPp
    by_cases hc : zs.getD s' 0 = 0
    · rw [hc] at c1
      refine (f1_ok p (cb s') (ib s') s' s' (by omega) W hPp c1 c2 (Ne.symm b3) (Ne.symm b4)).mono ?_
      rintro e w' ⟨rfl, rfl⟩
      refine ⟨s' + 1, m1, m2, Or.inl ⟨rfl, rfl, fun i hi => ?_⟩⟩
      by_cases e : i = s'
      · rw [e]; exact hc
      · exact hz i (by omega)
    · refine (f1_no p (cb s') (ib s') (zs.getD s' 0) s' (by simpa using hc) s' (by omega) W hPp c1 c2 (Ne.symm b3) (Ne.symm b4)).mono ?_
      rintro e w' ⟨rfl, rfl⟩
      exact ⟨s' + 1, m1, m2, Or.inr ⟨_, _, rfl, rfl, rfl, rfl, hc, hz⟩⟩
  · rintro e w' ⟨s', hP, hm, hT⟩
    have hb : Below B w w' := h.below.trans (hm.only.below h.size fun k hk e => by have : k = p := e; omega)
    refine ⟨hb, lt_of_block hP, ?_⟩
    rcases hT with ⟨rfl, rfl, hz⟩ | ⟨j, c, a, hj, rfl, rfl, rfl, rfl, hne, hz⟩
    · left
      refine ⟨?_, rfl, hP⟩
      rcases Int.lt_or_le (firstNZ zs s') 0 with h0 | h0
      · exact h0
      · obtain ⟨f, -, h2, h3, -⟩ := firstNZ_pos zs s' h0
        exact absurd (hz f h2) h3
    · right
      refine ⟨j, hj, ?_, rfl, hP⟩
      rcases Int.lt_or_le (firstNZ zs n) 0 with h0 | h0
      · exact absurd ((firstNZ_neg zs n h0).2 j hj) hne
      · obtain ⟨f, h1, h2, h3, h4⟩ := firstNZ_pos zs n h0
        rcases Nat.lt_trichotomy f j with g | g | g
        · exact absurd (hz f g) h3
        · rw [h1, g]
        · exact absurd (h4 j g) hne

set_option maxHeartbeats 1000000 in
theorem first_short (a : Option Addr) (len cap : Nat) (h : len ≤ 300) (zs : List Int) (w : World) (hz : IsInts w a len zs) :
    Calls Try.prog 6 #[.slice a len cap] w fun e w' => e = .returned (.bool true) ∧ Below w.heap.size w w' := by
  obtain ⟨i0, hi, hz0, hz1, hz2⟩ := info_parts Try.infoFunc
  have HI := hide (And.intro hi (And.intro hz0 (And.intro hz1 hz2)))
  clear hi hz0 hz1 hz2
  have HZ := hide hz
  clear hz
  have hmf : ∀ (fn : Fn) (first cap : Array Value) (w : World), (Instr.makeFunc fn first cap).run Try.prog w = .ok (.func fn first cap) w := fun _ _ _ _ => rfl
  go_enter Try.func6, Try.ntmps6
  go_wp2_with fail
  refine (awake_any _).mono ?_
  rintro e w1 ⟨rfl, hb1⟩
  have hs1 := hb1.size
  go_wp2
  go_loopw [4, 5, 17] (fun v f i wr => ∃ (k : Nat) (cb ib : Nat → Nat), k ≤ len ∧ i = .int .i64 k ∧ f = .int .i64 (firstNZ zs k) ∧ Rnd w.heap.size w1.heap.size zs w v k cb ib wr)
    (fun _ _ i _ => len - (intOf i).toNat)
  case atStart =>
    refine ⟨0, fun _ => 0, fun _ => 0, Nat.zero_le _, rfl, rfl, World.ownsRow_nil _ _ _ _, ?_, fun j hj => by omega, hb1.alloc hs1 _, by simp; omega⟩
    exact heap_alloc_new w1 _
  case round =>
    obtain ⟨k, cb, ib, hk, rfl, rfl, hr⟩ := hrel
    have hlo := firstNZ_lo zs k
    by_cases hlt : k < len
    · rcases unhide HZ with h0 | ⟨b, o, rfl, hcell⟩
      · omega
      have hcl := hcell k (by omega)
      have hcr : wr.cell? ⟨b, o + k, none⟩ = some (.int .i64 (zs.getD k 0)) := by rw [hr.below.cell (World.block_lt_of_cell? w _ hcl)]; exact hcl
      clear hcell hcl HZ
      generalize hc : zs.getD k 0 = c at hcr
      have HC := hide hc
      clear hc
      have HR := hide hr
      have hown := hr.row
      have hsz := hr.size
      clear hr
      have hpp : w1.heap.size < wr.heap.size := lt_of_block (unhide HR).cnt
      by_cases h1 : firstNZ zs k < 0
      · cases h2 : (c != 0) with
        | true =>
          go_wp2_with (at_builtin; refine wpList_append_own _ rfl _ _ 42 rfl w.heap.size 1 i0 .nilFunc 1 8 Try.underlying42 (unhide HI).1 (unhide HI).2.1 (unhide HI).2.2.1 (unhide HI).2.2.2 rfl (by decide) _ _ _ rfl (((hown.alloc _).alloc _).alloc _) ⟨wr.heap.size + 2, 0, none⟩ 1 1 [.func (.func 21) #[] #[.pointer (some ⟨w1.heap.size, 0, none⟩), .pointer (some ⟨wr.heap.size + 1, 0, none⟩), .pointer (some ⟨wr.heap.size, 0, none⟩)]] rfl rfl (news_one _ _ _ _ (by simp)) (by simp [Value.oneCell']) (by unfold maxLen; omega) (by omega) (by simp; omega) ?_)
          intro v' w2 hown' hgrow _
          obtain ⟨cb', ib', R⟩ := (unhide HR).next' (unhide HC) hown' hgrow
          have RH := hide R
          have F := hide (firstNZ_hit (unhide HC) h1 h2)
          clear hown' hgrow hown R hcr
          go_wp2
          go_roundw
          case rel => exact ⟨k + 1, cb', ib', by omega, by go_num, by rw [unhide F], unhide RH⟩
          case measure => simp [intOf]; omega
        | false =>
          go_wp2_with (at_builtin; refine wpList_append_own _ rfl _ _ 42 rfl w.heap.size 1 i0 .nilFunc 1 8 Try.underlying42 (unhide HI).1 (unhide HI).2.1 (unhide HI).2.2.1 (unhide HI).2.2.2 rfl (by decide) _ _ _ rfl (((hown.alloc _).alloc _).alloc _) ⟨wr.heap.size + 2, 0, none⟩ 1 1 [.func (.func 21) #[] #[.pointer (some ⟨w1.heap.size, 0, none⟩), .pointer (some ⟨wr.heap.size + 1, 0, none⟩), .pointer (some ⟨wr.heap.size, 0, none⟩)]] rfl rfl (news_one _ _ _ _ (by simp)) (by simp [Value.oneCell']) (by unfold maxLen; omega) (by omega) (by simp; omega) ?_)
          intro v' w2 hown' hgrow _
          obtain ⟨cb', ib', R⟩ := (unhide HR).next' (unhide HC) hown' hgrow
          have RH := hide R
          have F := hide (firstNZ_miss (unhide HC) h2)
          clear hown' hgrow hown R hcr
          go_wp2
          go_roundw
          case rel => exact ⟨k + 1, cb', ib', by omega, by go_num, by rw [unhide F], unhide RH⟩
          case measure => simp [intOf]; omega
      · have h1' : decide (firstNZ zs k < 0) = false := by simpa using h1
        go_wp2_with (at_builtin; refine wpList_append_own _ rfl _ _ 42 rfl w.heap.size 1 i0 .nilFunc 1 8 Try.underlying42 (unhide HI).1 (unhide HI).2.1 (unhide HI).2.2.1 (unhide HI).2.2.2 rfl (by decide) _ _ _ rfl (((hown.alloc _).alloc _).alloc _) ⟨wr.heap.size + 2, 0, none⟩ 1 1 [.func (.func 21) #[] #[.pointer (some ⟨w1.heap.size, 0, none⟩), .pointer (some ⟨wr.heap.size + 1, 0, none⟩), .pointer (some ⟨wr.heap.size, 0, none⟩)]] rfl rfl (news_one _ _ _ _ (by simp)) (by simp [Value.oneCell']) (by unfold maxLen; omega) (by omega) (by simp; omega) ?_)
        intro v' w2 hown' hgrow _
        obtain ⟨cb', ib', R⟩ := (unhide HR).next' (unhide HC) hown' hgrow
        have RH := hide R
        have F := hide (firstNZ_past (zs := zs) (k := k) (by omega))
        clear hown' hgrow hown R hcr
        go_wp2
        go_roundw
        case rel => exact ⟨k + 1, cb', ib', by omega, by go_num, by rw [unhide F], unhide RH⟩
        case measure => simp [intOf]; omega
    · have hkl : k = len := by omega
      subst hkl
      clear hk hlt
      go_wp2_with fail
      refine (first_calls w.heap.size w1.heap.size hs1 zs w _ k h cb ib wr hr).mono ?_
      rintro e w2 ⟨hb2, hp2, hT⟩
      clear hr
      rcases hT with ⟨h0, rfl, hcnt⟩ | ⟨f, hf, hfe, rfl, hcnt⟩
      · have hc2 := cell_of_one hcnt
        clear hcnt hlo
        simp only [faultV]
        go_wp2
        go_ret
        exact ⟨rfl, hb2.alloc (by omega) _⟩
      · have hc2 := cell_of_one hcnt
        clear hcnt hlo
        rcases unhide HZ with h0 | ⟨b, o, rfl, hcell⟩
        · omega
        have hcl := hcell f (by omega)
        have hcr : w2.cell? ⟨b, o + f, none⟩ = some (.int .i64 (zs.getD f 0)) := by rw [hb2.cell (World.block_lt_of_cell? w _ hcl)]; exact hcl
        have hbb : b < w2.heap.size := World.block_lt_of_cell? w2 _ hcr
        clear hcell hcl HZ
        rw [hfe]
        generalize hc : zs.getD f 0 = c at hcr
        clear hc hfe
        rw [show ((f + 1 : Nat) : Int) = (f : Int) + 1 from rfl] at hc2
        simp only [faultV]
        go_wp2
        go_quiet (fail)
        go_wp2
        go_ret
        exact ⟨rfl, below_drewN (hb2.alloc (by omega) _) _⟩

end Go.Proofs.Ytlkodnhkhhgimaa
