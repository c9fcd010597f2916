/-
  Grow, Concat.
-/
import Derived.Lib.AppendZeros
import Derived.Test.YtgpahhlmpdnbpaaSpC
namespace Go.Proofs.Ytgpahhlmpdnbpaa
open Go.RowKit

/-- A piece that is to be joined to others. -/
structure Pc where
  b : Nat
  o : Nat
  c : Nat
  l : List Value

def Pc.v (x : Pc) : Value := .slice (some ⟨x.b, x.o, none⟩) x.l.length x.c

/-- Pieces in a row. -/
structure Pcs (W : World) (p : Nat) (L : List Pc) : Prop where
  cell : ∀ j (h : j < L.length), W.cell? ⟨p, j, none⟩ = some (.slice (some ⟨L[j].b, L[j].o, none⟩) L[j].l.length L[j].c)
  lt : p < W.heap.size
  rd : ∀ j (h : j < L.length), Rd W (some ⟨L[j].b, L[j].o, none⟩) L[j].c L[j].l
  one : ∀ j (h : j < L.length), ∀ u ∈ L[j].l, u.oneCell' = true

theorem Pcs.on {W W' : World} {p : Nat} {L : List Pc} (h : Pcs W p L) (hb : Below W.heap.size W W') : Pcs W' p L :=
  ⟨fun j hj => (hb.cell h.lt).trans (h.cell j hj), Nat.lt_of_lt_of_le h.lt hb.size, fun j hj => (h.rd j hj).below hb, h.one⟩

def tot (L : List Pc) : Nat := (L.map fun x => x.l.length).sum
def flat (L : List Pc) : List Value := (L.map Pc.l).flatten

theorem tot_snoc (L : List Pc) (j : Nat) (h : j < L.length) : tot (L.take (j + 1)) = tot (L.take j) + L[j].l.length := by
  unfold tot
  rw [List.take_succ_eq_append_getElem h, List.map_append, List.sum_append]
  rfl

theorem flat_snoc (L : List Pc) (j : Nat) (h : j < L.length) : flat (L.take (j + 1)) = flat (L.take j) ++ L[j].l := by
  unfold flat
  rw [List.take_succ_eq_append_getElem h, List.map_append, List.flatten_append]
  simp

theorem tot_take_le (L : List Pc) (j : Nat) : tot (L.take j) ≤ tot L := by
  conv => rhs; rw [← List.take_append_drop j L]
  unfold tot
  rw [List.map_append, List.sum_append]
  omega

theorem size_zc (z : Value) (hz : z.cells.size = 1) (n : Nat) : (Builtin.zeroCells z.cells n).size = n := by
  rw [size_zeroCells, hz]; omega

theorem growS_nil (w : World) : Calls Try.prog 26 #[.slice none 0 0, .int .i64 0] w fun e w' => e = .returned (.slice none 0 0) ∧ w' = w := by
  go_enter Try.func26, Try.ntmps26
  go_wp2
  go_ret
  exact ⟨rfl, rfl⟩

set_option maxRecDepth 100000 in
theorem growS_walk (w : World) (n : Nat) (hn : n ≤ 1000000) : Calls Try.prog 26 #[.slice none 0 0, .int .i64 (n : Int)] w fun e w' => ∃ v, e = .returned v ∧ w'.ownsRow w.heap.size 9 1 v 0 [] ∧ Below w.heap.size w w' := by
  by_cases h0 : n = 0
  · subst h0
    exact (growS_nil w).mono fun _ _ ⟨he, hw⟩ => ⟨_, he, World.ownsRow_nil _ _ _ _, by rw [hw]; exact Below.refl _ _⟩
  obtain ⟨i, hi, hz⟩ : ∃ i, Try.prog.info? 9 = some i ∧ (i.zero, i.size, i.bytes) = (some (.string ⟨#[]⟩), 1, 16) :=
    Option.map_eq_some_iff.1 (show (Try.prog.info? 9).map (fun i => (i.zero, i.size, i.bytes)) = some (some (.string ⟨#[]⟩), 1, 16) by kernel_rfl)
  simp only [Prod.mk.injEq] at hz
  obtain ⟨h1, h2, h3⟩ := hz
  have hge := grownCap_ge w n 0 9
  have hle := grownCap_le_maxLen w n 0 9 (by unfold maxLen; omega)
  have HR : Hid ((Builtin.append_ #[22, 3] 22 #[.slice none 0 0, .int .i64 (n : Int)]).run Try.prog w = .ok (.slice (some ⟨w.heap.size, 0, none⟩) n (grownCap w n 0 9)) (w.drew.alloc (.cells (Builtin.zeroCells (.string ⟨#[]⟩ : Value).cells n ++ Builtin.zeroCells (.string ⟨#[]⟩ : Value).cells (grownCap w n 0 9 - n)) 9))) :=
    Lib.run_append_nil_zeros w 22 3 22 9 i (.string ⟨#[]⟩) .i64 .i64 Try.underlying22 Try.underlying3 hi h1 n (by omega) (by omega) (by omega) (by rw [h3]; omega)
  have HO : Hid ((w.drew.alloc (.cells (Builtin.zeroCells (.string ⟨#[]⟩ : Value).cells n ++ Builtin.zeroCells (.string ⟨#[]⟩ : Value).cells (grownCap w n 0 9 - n)) 9)).ownsRow w.heap.size 9 1 (.slice (some ⟨w.heap.size, 0, none⟩) 0 (grownCap w n 0 9)) 0 []) :=
    World.ownsRow_made w.drew _ _ (Nat.le_refl _) hle (by rw [Array.size_append, size_zc _ rfl, size_zc _ rfl]; omega)
  have HB : Hid (Below w.heap.size w (w.drew.alloc (.cells (Builtin.zeroCells (.string ⟨#[]⟩ : Value).cells n ++ Builtin.zeroCells (.string ⟨#[]⟩ : Value).cells (grownCap w n 0 9 - n)) 9))) := (below_drew w).alloc (Nat.le_refl _) _
  have hn' : (0 : Int) < (n : Int) := by omega
  clear hi h1 h2 h3
  generalize Builtin.zeroCells (.string ⟨#[]⟩ : Value).cells n ++ Builtin.zeroCells (.string ⟨#[]⟩ : Value).cells (grownCap w n 0 9 - n) = Z at *
  generalize grownCap w n 0 9 = G at *
  go_enter Try.func26, Try.ntmps26
  go_wp2_with (first
    | (at_builtin
       refine Lib.wpList_append_run _ rfl _ _ _ _ rfl _ _ rfl rfl _ _ HR.out ?_)
    | go_in)
  go_ret
  exact ⟨_, rfl, HO.out, HB.out⟩

set_option maxRecDepth 100000 in
set_option maxHeartbeats 1000000 in
theorem concatS_walk {w : World} {p cap : Nat} {L : List Pc} (h : Pcs w p L) (hl : L.length ≤ 1000) (ht : tot L ≤ 100000) : Calls Try.prog 18 #[.slice (some ⟨p, 0, none⟩) L.length cap] w fun e w' => ∃ v, e = .returned v ∧ w'.ownsRow w.heap.size 9 1 v (tot L) (flat L) ∧ Below w.heap.size w w' := by
  have HP : Hid (Pcs w p L) := h
  have hpl := h.lt
  clear h
  go_enter Try.func18, Try.ntmps18
  go_wp2
  go_loop [3, 11] (fun x i => ∃ j : Nat, j ≤ L.length ∧ i = .int .i64 (j : Int) ∧ x = .int .i64 (tot (L.take j) : Int)) (fun _ i => L.length - (intOf i).toNat)
  case atStart => exact ⟨0, Nat.zero_le _, rfl, by simp [tot]⟩
  case round =>
    obtain ⟨j, hj, rfl, rfl⟩ := hrel
    have htj := tot_take_le L j
    by_cases hlt : j < L.length
    · have hc := HP.out.cell j hlt
      have HT : Hid _ := tot_snoc L j hlt
      have htj1 := tot_take_le L (j + 1)
      have hts := tot_snoc L j hlt
      have hlt' : (j : Int) < (L.length : Int) := by omega
      generalize L[j] = x at *
      have hbx : x.l.length ≤ 100000 := by omega
      clear hts
      go_wp2
      go_round
      case rel => exact ⟨j + 1, hlt, by go_num, by rw [HT.out]; go_num⟩
      case measure => simp [intOf]; omega
    · have hjl : j = L.length := by omega
      subst hjl
      rw [List.take_length]
      go_wp2_with fail
      refine (growS_walk w (tot L) (by omega)).mono ?_
      rintro e w1 ⟨v1, rfl, O1, B1⟩
      obtain ⟨a1, c1, rfl, _, _, _⟩ := owns_rd O1
      have HO1 : Hid (w1.ownsRow w.heap.size 9 1 (.slice a1 0 c1) 0 []) := O1
      have HB1 : Hid (Below w.heap.size w w1) := B1
      clear O1 B1
      go_wp2
      go_loopw [6, 27] (fun x i wr => ∃ j : Nat, j ≤ L.length ∧ i = .int .i64 (j : Int) ∧ Hid (wr.ownsRow w.heap.size 9 1 x (tot (L.take j)) (flat (L.take j))) ∧ Hid (Below w.heap.size w wr)) (fun _ i _ => L.length - (intOf i).toNat)
      case atStart => exact ⟨0, Nat.zero_le _, rfl, HO1, HB1⟩
      case round =>
        obtain ⟨j, hj, rfl, HO, HB⟩ := hrel
        obtain ⟨a2, c2, rfl, _, _, _⟩ := owns_rd HO.out
        have htj := tot_take_le L j
        by_cases hlt : j < L.length
        · have hc := (HP.out.on HB.out).cell j hlt
          have HC : Hid _ := ((HP.out.on HB.out).rd j hlt).cells
          have HI : Hid _ := HP.out.one j hlt
          have HT : Hid _ := tot_snoc L j hlt
          have HF : Hid _ := flat_snoc L j hlt
          have htj1 := tot_take_le L (j + 1)
          have hts := tot_snoc L j hlt
          have hpl2 : p < wr.heap.size := Nat.lt_of_lt_of_le hpl HB.out.size
          have hlt' : (j : Int) < (L.length : Int) := by omega
          generalize L[j] = x at *
          have hbx : x.l.length ≤ 100000 := by omega
          clear hts
          go_wp2_with (first
            | (at_builtin
               refine append_row (z := .string ⟨#[]⟩) (by_ := 16) Try.underlying22 (by kernel_rfl) (by decide) rfl w.heap.size HB.out.size rfl _ _ rfl (.slice a2 (tot (L.take j)) c2) (tot (L.take j)) (flat (L.take j)) x.l rfl HO.out (by omega) x.l.length (by omega) ⟨x.b, x.o, none⟩ x.c rfl rfl HC.out HI.out ?_
               intro v' W' hown hg _
               have HO2 : Hid (W'.ownsRow w.heap.size 9 1 v' (tot (L.take (j + 1))) (flat (L.take (j + 1)))) := (by rw [HT.out, HF.out]; exact hown)
               have HB2 : Hid (Below w.heap.size w W') := HB.out.grown hg HB.out.size (fun k hk => (HO.out.lt k hk).1)
               clear hown hg)
            | go_in)
          exact ⟨⟨j + 1, hlt, by go_num, HO2, HB2⟩, by simp [intOf]; omega⟩
        · have hjl : j = L.length := by omega
          subst hjl
          rw [List.take_length] at HO ⊢
          go_wp2
          go_ret
          exact ⟨_, rfl, HO.out, HB.out⟩

theorem growI_nil (w : World) : Calls Try.prog 27 #[.slice none 0 0, .int .i64 0] w fun e w' => e = .returned (.slice none 0 0) ∧ w' = w := by
  go_enter Try.func27, Try.ntmps27
  go_wp2
  go_ret
  exact ⟨rfl, rfl⟩

set_option maxRecDepth 100000 in
theorem growI_walk (w : World) (n : Nat) (hn : n ≤ 1000000) : Calls Try.prog 27 #[.slice none 0 0, .int .i64 (n : Int)] w fun e w' => ∃ v, e = .returned v ∧ w'.ownsRow w.heap.size 3 1 v 0 [] ∧ Below w.heap.size w w' := by
  by_cases h0 : n = 0
  · subst h0
    exact (growI_nil w).mono fun _ _ ⟨he, hw⟩ => ⟨_, he, World.ownsRow_nil _ _ _ _, by rw [hw]; exact Below.refl _ _⟩
  obtain ⟨i, hi, hz⟩ : ∃ i, Try.prog.info? 3 = some i ∧ (i.zero, i.size, i.bytes) = (some (.int .i64 0), 1, 8) :=
    Option.map_eq_some_iff.1 (show (Try.prog.info? 3).map (fun i => (i.zero, i.size, i.bytes)) = some (some (.int .i64 0), 1, 8) by kernel_rfl)
  simp only [Prod.mk.injEq] at hz
  obtain ⟨h1, h2, h3⟩ := hz
  have hge := grownCap_ge w n 0 3
  have hle := grownCap_le_maxLen w n 0 3 (by unfold maxLen; omega)
  have HR : Hid ((Builtin.append_ #[23, 3] 23 #[.slice none 0 0, .int .i64 (n : Int)]).run Try.prog w = .ok (.slice (some ⟨w.heap.size, 0, none⟩) n (grownCap w n 0 3)) (w.drew.alloc (.cells (Builtin.zeroCells (.int .i64 0 : Value).cells n ++ Builtin.zeroCells (.int .i64 0 : Value).cells (grownCap w n 0 3 - n)) 3))) :=
    Lib.run_append_nil_zeros w 23 3 23 3 i (.int .i64 0) .i64 .i64 Try.underlying23 Try.underlying3 hi h1 n (by omega) (by omega) (by omega) (by rw [h3]; omega)
  have HO : Hid ((w.drew.alloc (.cells (Builtin.zeroCells (.int .i64 0 : Value).cells n ++ Builtin.zeroCells (.int .i64 0 : Value).cells (grownCap w n 0 3 - n)) 3)).ownsRow w.heap.size 3 1 (.slice (some ⟨w.heap.size, 0, none⟩) 0 (grownCap w n 0 3)) 0 []) :=
    World.ownsRow_made w.drew _ _ (Nat.le_refl _) hle (by rw [Array.size_append, size_zc _ rfl, size_zc _ rfl]; omega)
  have HB : Hid (Below w.heap.size w (w.drew.alloc (.cells (Builtin.zeroCells (.int .i64 0 : Value).cells n ++ Builtin.zeroCells (.int .i64 0 : Value).cells (grownCap w n 0 3 - n)) 3))) := (below_drew w).alloc (Nat.le_refl _) _
  have hn' : (0 : Int) < (n : Int) := by omega
  clear hi h1 h2 h3
  generalize Builtin.zeroCells (.int .i64 0 : Value).cells n ++ Builtin.zeroCells (.int .i64 0 : Value).cells (grownCap w n 0 3 - n) = Z at *
  generalize grownCap w n 0 3 = G at *
  go_enter Try.func27, Try.ntmps27
  go_wp2_with (first
    | (at_builtin
       refine Lib.wpList_append_run _ rfl _ _ _ _ rfl _ _ rfl rfl _ _ HR.out ?_)
    | go_in)
  go_ret
  exact ⟨_, rfl, HO.out, HB.out⟩

set_option maxRecDepth 100000 in
set_option maxHeartbeats 1000000 in
theorem concatI_walk {w : World} {p cap : Nat} {L : List Pc} (h : Pcs w p L) (hl : L.length ≤ 1000) (ht : tot L ≤ 100000) : Calls Try.prog 19 #[.slice (some ⟨p, 0, none⟩) L.length cap] w fun e w' => ∃ v, e = .returned v ∧ w'.ownsRow w.heap.size 3 1 v (tot L) (flat L) ∧ Below w.heap.size w w' := by
  have HP : Hid (Pcs w p L) := h
  have hpl := h.lt
  clear h
  go_enter Try.func19, Try.ntmps19
  go_wp2
  go_loop [3, 11] (fun x i => ∃ j : Nat, j ≤ L.length ∧ i = .int .i64 (j : Int) ∧ x = .int .i64 (tot (L.take j) : Int)) (fun _ i => L.length - (intOf i).toNat)
  case atStart => exact ⟨0, Nat.zero_le _, rfl, by simp [tot]⟩
  case round =>
    obtain ⟨j, hj, rfl, rfl⟩ := hrel
    have htj := tot_take_le L j
    by_cases hlt : j < L.length
    · have hc := HP.out.cell j hlt
      have HT : Hid _ := tot_snoc L j hlt
      have htj1 := tot_take_le L (j + 1)
      have hts := tot_snoc L j hlt
      have hlt' : (j : Int) < (L.length : Int) := by omega
      generalize L[j] = x at *
      have hbx : x.l.length ≤ 100000 := by omega
      clear hts
      go_wp2
      go_round
      case rel => exact ⟨j + 1, hlt, by go_num, by rw [HT.out]; go_num⟩
      case measure => simp [intOf]; omega
    · have hjl : j = L.length := by omega
      subst hjl
      rw [List.take_length]
      go_wp2_with fail
      refine (growI_walk w (tot L) (by omega)).mono ?_
      rintro e w1 ⟨v1, rfl, O1, B1⟩
      obtain ⟨a1, c1, rfl, _, _, _⟩ := owns_rd O1
      have HO1 : Hid (w1.ownsRow w.heap.size 3 1 (.slice a1 0 c1) 0 []) := O1
      have HB1 : Hid (Below w.heap.size w w1) := B1
      clear O1 B1
      go_wp2
      go_loopw [6, 27] (fun x i wr => ∃ j : Nat, j ≤ L.length ∧ i = .int .i64 (j : Int) ∧ Hid (wr.ownsRow w.heap.size 3 1 x (tot (L.take j)) (flat (L.take j))) ∧ Hid (Below w.heap.size w wr)) (fun _ i _ => L.length - (intOf i).toNat)
      case atStart => exact ⟨0, Nat.zero_le _, rfl, HO1, HB1⟩
      case round =>
        obtain ⟨j, hj, rfl, HO, HB⟩ := hrel
        obtain ⟨a2, c2, rfl, _, _, _⟩ := owns_rd HO.out
        have htj := tot_take_le L j
        by_cases hlt : j < L.length
        · have hc := (HP.out.on HB.out).cell j hlt
          have HC : Hid _ := ((HP.out.on HB.out).rd j hlt).cells
          have HI : Hid _ := HP.out.one j hlt
          have HT : Hid _ := tot_snoc L j hlt
          have HF : Hid _ := flat_snoc L j hlt
          have htj1 := tot_take_le L (j + 1)
          have hts := tot_snoc L j hlt
          have hpl2 : p < wr.heap.size := Nat.lt_of_lt_of_le hpl HB.out.size
          have hlt' : (j : Int) < (L.length : Int) := by omega
          generalize L[j] = x at *
          have hbx : x.l.length ≤ 100000 := by omega
          clear hts
          go_wp2_with (first
            | (at_builtin
               refine append_row (z := .int .i64 0) (by_ := 8) Try.underlying23 (by kernel_rfl) (by decide) rfl w.heap.size HB.out.size rfl _ _ rfl (.slice a2 (tot (L.take j)) c2) (tot (L.take j)) (flat (L.take j)) x.l rfl HO.out (by omega) x.l.length (by omega) ⟨x.b, x.o, none⟩ x.c rfl rfl HC.out HI.out ?_
               intro v' W' hown hg _
               have HO2 : Hid (W'.ownsRow w.heap.size 3 1 v' (tot (L.take (j + 1))) (flat (L.take (j + 1)))) := (by rw [HT.out, HF.out]; exact hown)
               have HB2 : Hid (Below w.heap.size w W') := HB.out.grown hg HB.out.size (fun k hk => (HO.out.lt k hk).1)
               clear hown hg)
            | go_in)
          exact ⟨⟨j + 1, hlt, by go_num, HO2, HB2⟩, by simp [intOf]; omega⟩
        · have hjl : j = L.length := by omega
          subst hjl
          rw [List.take_length] at HO ⊢
          go_wp2
          go_ret
          exact ⟨_, rfl, HO.out, HB.out⟩
end Go.Proofs.Ytgpahhlmpdnbpaa
