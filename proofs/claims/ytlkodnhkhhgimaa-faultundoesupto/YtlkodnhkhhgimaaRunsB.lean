/-
  The walks of Size, Deep and great: they only read.
-/
import Derived.Test.YtlkodnhkhhgimaaRunsA
import Derived.Deep.QuietTactic
import Derived.BigQuiet
import Derived.Deep.RegionWith
namespace Go.Proofs.Ytlkodnhkhhgimaa
open Go.RowKit

mutual
def sizS : Stp → Int → Int
  | .mk _ _ _ i b, m => 1 + sizL i m 0 + sizL b m 0
def sizL : List Stp → Int → Int → Int
  | [], _, n => n
  | s :: r, most, n => if n ≤ most then sizL r most (n + sizS s (most - n)) else n
end
mutual
def depS : Stp → Int
  | .mk _ _ _ i b => 1 + max (depL i 0) (depL b 0)
def depL : List Stp → Int → Int
  | [], n => n
  | s :: r, n => depL r (max n (depS s))
end

mutual
theorem sizS_bd : ∀ s m, 1 ≤ sizS s m ∧ sizS s m ≤ szS s
  | .mk _ _ _ i b, m => by
    have h1 := sizL_bd i m 0
    have h2 := sizL_bd b m 0
    simp only [sizS, szS]
    omega
theorem sizL_bd : ∀ l m n, n ≤ sizL l m n ∧ sizL l m n ≤ n + szL l
  | [], m, n => by simp [sizL, szL]
  | s :: r, m, n => by
    have h1 := sizS_bd s (m - n)
    have h2 := sizL_bd r m (n + sizS s (m - n))
    simp only [sizL, szL]
    split <;> omega
end
mutual
theorem depS_bd : ∀ s, 1 ≤ depS s ∧ depS s ≤ szS s
  | .mk _ _ _ i b => by
    have h1 := depL_bd i 0
    have h2 := depL_bd b 0
    simp only [depS, szS]
    omega
theorem depL_bd : ∀ l n, n ≤ depL l n ∧ depL l n ≤ max n (szL l)
  | [], n => by simp [depL, szL]; omega
  | s :: r, n => by
    have h1 := depS_bd s
    have h2 := depL_bd r (max n (depS s))
    simp only [depL, szL]
    omega
end

theorem len_le_sz (l : List Stp) : l.length ≤ szL l := by
  induction l with
  | nil => simp [szL]
  | cons s r ih =>
    cases s
    simp only [List.length_cons, szL, szS]
    omega

set_option maxHeartbeats 1000000 in
theorem size_any (w0 : World) : ∀ (N : Nat) (l : List Stp) (x : Option Addr) (c : Nat) (most : Int) (w : World), szL l < N → szL l ≤ 4000000 → 0 ≤ most → most ≤ 300 → StepsAt w0 x l → Below w0.heap.size w0 w →
    Calls Try.prog 24 #[.slice x l.length c, .int .i64 most] w fun e w' => e = .returned (.int .i64 (sizL l most 0)) ∧ ∃ m, w' = w.drewN m := by
  intro N
  induction N with
  | zero => intro l x c most w hN; omega
  | succ N ih =>
    intro l x c most w hN hsz hm0 hm1 hat hb
    have IH := hide ih
    have HAT := hide hat
    have HB := hide hb
    have hlen := len_le_sz l
    clear ih hat hb
    go_enter Try.func24, Try.ntmps24
    go_wp2_with fail
    go_loopw [5, 6] (fun n i wr => ∃ (d r : List Stp) (nn : Int) (m : Nat), l = d ++ r ∧ i = .int .i64 d.length ∧ n = .int .i64 nn ∧ 0 ≤ nn ∧ nn ≤ szL d ∧ sizL l most 0 = sizL r most nn ∧ wr = w.drewN m)
      (fun _ i _ => l.length - (intOf i).toNat)
    case atStart => exact ⟨[], l, 0, 0, rfl, rfl, rfl, by decide, by simp, rfl, rfl⟩
    case round =>
      obtain ⟨d, r, nn, m, hl, rfl, rfl, hn0, hn1, hS, rfl⟩ := hrel
      have HS := hide hS
      clear hS
      cases r with
      | nil =>
        rw [List.append_nil] at hl
        subst hl
        go_wp2_with fail
        go_ret
        exact ⟨by rw [unhide HS]; rfl, m, rfl⟩
      | cons s r =>
        cases s with
        | mk sk sn sa si sb =>
        have HL := hide hl
        have hlt : d.length < l.length := by rw [hl]; simp
        have hszl : szL d + (1 + szL si + szL sb) + szL r = szL l := by rw [hl, szL_append]; simp [szL, szS]; omega
        clear hl
        by_cases hle : nn ≤ most
        · obtain ⟨b, o, rfl, -, -, -, ⟨x1, c1, -, e1, a1⟩, ⟨x2, c2, -, e2, a2⟩⟩ := ((unhide HL) ▸ (unhide HAT)).at
          have hbm := below_drewN (unhide HB) m
          generalize hW : w.drewN m = W at hbm ⊢
          have HW := hide hW
          have HBM := hide hbm
          have E1 := (hbm.cell (World.block_lt_of_cell? w0 _ e1)).trans e1
          have E2 := (hbm.cell (World.block_lt_of_cell? w0 _ e2)).trans e2
          clear hW hbm
          rw [show o + 5 * d.length + 3 = o + d.length * 5 + 3 by omega] at E1
          rw [show o + 5 * d.length + 4 = o + d.length * 5 + 4 by omega] at E2
          have C1 : ∀ n, Hid (Calls Try.prog 24 #[.slice x1 si.length c1, .int .i64 (most - nn)] (W.drewN n) fun e w' => e = .returned (.int .i64 (sizL si (most - nn) 0)) ∧ ∃ k, w' = (W.drewN n).drewN k) :=
            fun n => unhide IH si x1 c1 (most - nn) _ (by omega) (by omega) (by omega) (by omega) a1 (below_drewN (unhide HBM) n)
          have C2 : ∀ n, Hid (Calls Try.prog 24 #[.slice x2 sb.length c2, .int .i64 (most - nn)] (W.drewN n) fun e w' => e = .returned (.int .i64 (sizL sb (most - nn) 0)) ∧ ∃ k, w' = (W.drewN n).drewN k) :=
            fun n => unhide IH sb x2 c2 (most - nn) _ (by omega) (by omega) (by omega) (by omega) a2 (below_drewN (unhide HBM) n)
          have B1 := sizL_bd si (most - nn) 0
          have B2 := sizL_bd sb (most - nn) 0
          clear e1 e2 a1 a2 HB IH HAT
          go_wp2_with fail
          go_quiet (first
            | (go_at_call_of 24 (x1); exact Calls.quiet_of (unhide (C1 _)))
            | (go_at_call_of 24 (x2); exact Calls.quiet_of (unhide (C2 _))))
          go_wp2_with fail
          go_roundw
          case rel =>
            refine ⟨d ++ [.mk sk sn sa si sb], r, nn + sizS (.mk sk sn sa si sb) (most - nn), m + nq, ?_, ?_, ?_, ?_, ?_, ?_, ?_⟩
            · rw [unhide HL]; simp
            · simp
            · simp only [sizS]; congr 1; omega
            · simp only [sizS]; omega
            · rw [szL_append]; simp only [sizS, szL, szS]; omega
            · rw [unhide HS]; simp only [sizL]; rw [if_pos hle]
            · rw [← unhide HW, World.drewN_drewN]
          case measure => simp [intOf]; omega
        · go_wp2_with fail
          go_ret
          exact ⟨by rw [unhide HS]; simp only [sizL]; rw [if_neg (by omega)]; rfl, m, rfl⟩

set_option maxHeartbeats 1000000 in
theorem deep_any (w0 : World) : ∀ (N : Nat) (l : List Stp) (x : Option Addr) (c : Nat) (w : World), szL l < N → szL l ≤ 4000000 → StepsAt w0 x l → Below w0.heap.size w0 w →
    Calls Try.prog 25 #[.slice x l.length c] w fun e w' => e = .returned (.int .i64 (depL l 0)) ∧ w' = w := by
  intro N
  induction N with
  | zero => intro l x c w hN; omega
  | succ N ih =>
    intro l x c w hN hsz hat hb
    have IH := hide ih
    have HAT := hide hat
    have HB := hide hb
    have hlen := len_le_sz l
    clear ih hat hb
    go_enter Try.func25, Try.ntmps25
    go_wp2_with fail
    go_loop [3, 4] (fun n i => ∃ (d r : List Stp) (nn : Int), l = d ++ r ∧ i = .int .i64 d.length ∧ n = .int .i64 nn ∧ 0 ≤ nn ∧ nn ≤ szL l ∧ depL l 0 = depL r nn)
      (fun _ i => l.length - (intOf i).toNat)
    case atStart => exact ⟨[], l, 0, rfl, rfl, rfl, by decide, by simp, rfl⟩
    case round =>
      obtain ⟨d, r, nn, hl, rfl, rfl, hn0, hn1, hS⟩ := hrel
      have HS := hide hS
      clear hS
      cases r with
      | nil =>
        rw [List.append_nil] at hl
        subst hl
        go_wp2_with fail
        go_ret
        exact ⟨by rw [unhide HS]; rfl, rfl⟩
      | cons s r =>
        cases s with
        | mk sk sn sa si sb =>
        have HL := hide hl
        have hlt : d.length < l.length := by rw [hl]; simp
        have hszl : szL d + (1 + szL si + szL sb) + szL r = szL l := by rw [hl, szL_append]; simp [szL, szS]; omega
        clear hl
        obtain ⟨b, o, rfl, -, -, -, ⟨x1, c1, -, e1, a1⟩, ⟨x2, c2, -, e2, a2⟩⟩ := ((unhide HL) ▸ (unhide HAT)).at
        have E1 := ((unhide HB).cell (World.block_lt_of_cell? w0 _ e1)).trans e1
        have E2 := ((unhide HB).cell (World.block_lt_of_cell? w0 _ e2)).trans e2
        rw [show o + 5 * d.length + 3 = o + d.length * 5 + 3 by omega] at E1
        rw [show o + 5 * d.length + 4 = o + d.length * 5 + 4 by omega] at E2
        have C1 := hide (unhide IH si x1 c1 w (by omega) (by omega) a1 (unhide HB))
        have C2 := hide (unhide IH sb x2 c2 w (by omega) (by omega) a2 (unhide HB))
        have B1 := depL_bd si 0
        have B2 := depL_bd sb 0
        clear e1 e2 a1 a2 HB IH HAT
        have fin : ∀ n' : Int, n' = max nn (1 + max (depL si 0) (depL sb 0)) → Hid (depL l 0 = depL r n') := fun n' e => by
          rw [e]; exact (unhide HS).trans rfl
        generalize depL si 0 = p1 at *
        generalize depL sb 0 = p2 at *
        by_cases h1 : nn < 1 + p1 <;> by_cases h2 : max nn (1 + p1) < 1 + p2
        all_goals
          go_wp2_with (first
            | (go_at_call_of 25 (x1); refine (unhide C1).mono ?_; rintro e w' ⟨rfl, rfl⟩)
            | (go_at_call_of 25 (x2); refine (unhide C2).mono ?_; rintro e w' ⟨rfl, rfl⟩))
        all_goals
          go_round
          case rel => refine ⟨d ++ [.mk sk sn sa si sb], r, _, by rw [unhide HL]; simp, by simp, rfl, ?_, ?_, unhide (fin _ ?_)⟩ <;> omega
          case measure => simp [intOf]; omega

set_option maxHeartbeats 1000000 in
theorem great_any (w0 : World) (l : List Stp) (x : Option Addr) (c : Nat) (w : World) (hsz : szL l ≤ 4000000) (hat : StepsAt w0 x l) (hb : Below w0.heap.size w0 w) :
    Calls Try.prog 8 #[.slice x l.length c] w fun e w' => ∃ t m, e = .returned (.bool t) ∧ w' = w.drewN m := by
  have C1 := hide (size_any w0 (szL l + 1) l x c 300 w (by omega) hsz (by decide) (by decide) hat hb)
  have C2 : ∀ m, Hid (Calls Try.prog 25 #[.slice x l.length c] (w.drewN m) fun e w' => e = .returned (.int .i64 (depL l 0)) ∧ w' = w.drewN m) :=
    fun m => deep_any w0 (szL l + 1) l x c _ (by omega) hsz hat (below_drewN hb m)
  clear hat hb hsz
  go_enter Try.func8, Try.ntmps8
  go_wp2_with fail
  refine (unhide C1).mono ?_
  rintro e w' ⟨rfl, m, rfl⟩
  generalize sizL l 300 0 = p1
  generalize depL l 0 = p2 at C2
  by_cases h1 : 300 < p1
  · have h1' : decide (300 < p1) = true := by simpa using h1
    go_wp2_with fail
    go_ret
    exact ⟨_, m, rfl, rfl⟩
  · have h1' : decide (300 < p1) = false := by simpa using h1
    go_wp2_with (go_at_call 25; refine (unhide (C2 _)).mono ?_; rintro e w' ⟨rfl, rfl⟩)
    go_ret
    exact ⟨_, m, rfl, rfl⟩

end Go.Proofs.Ytlkodnhkhhgimaa
