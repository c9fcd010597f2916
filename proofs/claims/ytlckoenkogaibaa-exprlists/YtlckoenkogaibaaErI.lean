/-
  ExprLists: the walk.
-/
import Derived.Test.YtlckoenkogaibaaErH
import Derived.Test.YtlckoenkogaibaaEvO
namespace Go.Proofs.Ytlckoenkogaibaa
open Go.RowKit

set_option maxRecDepth 100000 in
set_option maxHeartbeats 1000000 in
/-- Two slices with the same values are told to be the same. -/
theorem vsame_walk (a a' : Option Addr) (c c' : Nat) (l : List Vv) (hl : l.length ≤ 1000) (w : World) (h : Rw.SlG vvC 3 w a l) (h' : Rw.SlG vvC 3 w a' l) :
    Calls Try.prog 15 #[.slice a l.length c, .slice a' l.length c'] w fun e w' => e = .returned (.bool true) ∧ Below w.heap.size w w' := by
  have H := Rw.dh h
  have H' := Rw.dh h'
  clear h h'
  have hnn : ((l.length : Int) == (l.length : Int)) = true := beq_self_eq_true _
  have hnn2 : ((l.length : Int) != (l.length : Int)) = false := by simp
  obtain ⟨n, hn⟩ : ∃ n, n = l.length := ⟨_, rfl⟩
  rw [← hn] at hnn hnn2 hl ⊢
  have HN := Rw.dh hn
  clear hn
  go_enter Try.func15, Try.ntmps15
  go_wp2
  go_loopw [5] (fun i wr => ∃ j k : Nat, j ≤ n ∧ i = .int .i64 j ∧ wr = w.drewN k) (fun i _ => n - (intOf i).toNat)
  case atStart => exact ⟨0, 0, Nat.zero_le _, rfl, rfl⟩
  case round =>
    obtain ⟨j, k, hj, rfl, rfl⟩ := hrel
    by_cases hlt : j < n
    · have hlt' : j < l.length := by rw [← HN.out]; exact hlt
      obtain ⟨b, o, v, rfl, hb, hv, hc⟩ := H.out.at hlt'
      obtain ⟨b', o', v', rfl, hb', hv', hc'⟩ := H'.out.at hlt'
      rw [hv] at hv'
      cases hv'
      have c0 : w.cell? ⟨b, o + j * 3, none⟩ = some (.int .i64 v.k) := hc 0 _ rfl
      have c1 : w.cell? ⟨b, o + j * 3 + 1, none⟩ = some (.int .i64 v.n) := hc 1 _ rfl
      have c2 : w.cell? ⟨b, o + j * 3 + 2, none⟩ = some (.string v.s) := hc 2 _ rfl
      have d0 : w.cell? ⟨b', o' + j * 3, none⟩ = some (.int .i64 v.k) := hc' 0 _ rfl
      have d1 : w.cell? ⟨b', o' + j * 3 + 1, none⟩ = some (.int .i64 v.n) := hc' 1 _ rfl
      have d2 : w.cell? ⟨b', o' + j * 3 + 2, none⟩ = some (.string v.s) := hc' 2 _ rfl
      have hs : (v.s.toList == v.s.toList) = true := beq_self_eq_true _
      clear hv hc hc' hlt'
      go_wp2
      go_quiet (fail)
      go_wp2
      exact ⟨⟨j + 1, _, hlt, by go_num, rfl⟩, by simp [intOf]; omega⟩
    · have hjn : j = n := by omega
      subst hjn
      go_wp2
      go_ret
      exact ⟨rfl, ⟨rfl, rfl, rfl, Nat.le_refl _, fun _ _ => rfl⟩⟩

theorem slg_none {w : World} : Rw.SlG vvC 3 w none [] := Or.inl rfl

set_option maxRecDepth 100000 in
set_option maxHeartbeats 1000000 in
theorem exprLists_walk {l : List NL} {a : Option Addr} {c : Nat} {ra : Option Addr} {rs : List RowL} {rc : Nat} (w : World) (hS : Rw.SlG nC 7 w a l) (hI : ∀ k ∈ l, ∀ n, InN n w k) (hl : l.length ≤ 1599289640401) (hR : RowsIn w ra rs) (hF : RowsFit rs)
    (hA0 : ∀ W, Calls Try.prog 5 #[] W fun e W' => e = .returned (.bool true) ∧ Below W.heap.size W W') :
    Calls Try.prog 4 #[.slice a l.length c, .slice ra rs.length rc] w fun e W => e = .returned (.bool true) ∧ Below w.heap.size w W := by
  have HA := Rw.dh hA0
  have HS := Rw.dh hS
  have HI := Rw.dh hI
  have HR := Rw.dh hR
  have HF := Rw.dh hF
  have HL := Rw.dh hl
  clear hA0 hS hI hR hF hl
  go_enter Try.func4, Try.ntmps4
  go_wp2_with fail
  refine (HA.out _).mono ?_
  rintro e w1 ⟨rfl, hb1⟩
  have HB1 := Rw.dh hb1
  clear hb1
  go_wp2_with fail
  have hL := long_walk (l := l) (a := a) (c := c) (ra := ra) (rs := rs) (rc := rc) (w := w1) (HS.out.below HB1.out) (fun k hk => (HI.out k hk 40).on HB1.out) HL.out (HR.out.on HB1.out) HF.out.1
  refine hL.mono ?_
  clear hL
  rintro e w2 ⟨B, rfl, hB, hb2⟩
  have HB2 := Rw.dh (below_on HB1.out hb2)
  have HB := Rw.dh hB
  clear hb2 hB HB1
  cases B with
  | true =>
    go_wp2
    go_ret
    exact ⟨rfl, HB2.out⟩
  | false =>
    have hd : ∀ k ∈ l, deepN 40 k = false := (HB.out rfl).1
    have hl : l.length ≤ 50 := (HB.out rfl).2.2
    have HP := Rw.dh (nplains_walk 40 (nplain_walk 40) (c := c) (HS.out.below HB2.out) (fun k hk => (HI.out k hk 40).on HB2.out) hd HL.out)
    have HAL := Rw.dh (fun W (hb : Below w.heap.size w W) => all_walk (n := 40) (by decide) HF.out (c := c) (rc := rc) (HS.out.below hb) (fun k hk => (HI.out k hk 40).on hb) hd hl (HR.out.on hb))
    have HRO := Rw.dh (fun W (hb : Below w.heap.size w W) => row_walk (n := 40) (by decide) HF.out (c := c) (rc := rc) (HS.out.below hb) (fun k hk => (HI.out k hk 40).on hb) hd hl (HR.out.on hb))
    have HDL := Rw.dh (And.intro hd hl)
    clear hd hl HB HA HS HI HL
    go_wp2_with fail
    refine HP.out.mono ?_
    rintro e w3 ⟨a', c', l', rfl, hlen, hS', -, hI', hL', hb3⟩
    obtain ⟨eA, eE, eV⟩ := allN_like rs hlen.symm hL'
    have hd' : ∀ k ∈ l', deepN 40 k = false := fun k hk => by
      obtain ⟨j, hj⟩ := List.mem_iff_getElem?.1 hk
      have hjl : j < l.length := by have := (List.getElem?_eq_some_iff.1 hj).1; omega
      have hx := List.getElem?_eq_getElem hjl
      rw [← (hL' j _ k hx hj).deep]
      exact HDL.out.1 _ (List.mem_of_getElem? hx)
    have hl' : l'.length ≤ 50 := by rw [hlen]; exact HDL.out.2
    have HB3 := Rw.dh (below_on HB2.out hb3)
    have HQA : Hid (∀ W, Below w3.heap.size w3 W → Calls Try.prog 12 #[.slice a' l.length c', .slice ra rs.length rc] W fun e w' => e = .returned (.tuple #[.bool (allN 40 rs l).1, .int .i64 (allN 40 rs l).2]) ∧ Below W.heap.size W w') := fun W hb => by
      rw [eA, ← hlen]
      exact rall_walk (hS'.below hb) (fun k hk => (hI' k hk 40).1.on hb) hd' hl' (HR.out.on (below_on HB3.out hb)) HF.out
    have HQR : Hid (∀ W, Below w3.heap.size w3 W → Calls Try.prog 14 #[.slice a' l.length c', .slice ra rs.length rc] W (RowP (l.map fun x => (evN 40 rs x).1) (errN 40 rs l) W)) := fun W hb => by
      rw [eE, eV, ← hlen]
      exact rrow_walk (hS'.below hb) (fun k hk => (hI' k hk 40).1.on hb) hd' hl' (HR.out.on (below_on HB3.out hb)) HF.out
    have HVL : Hid ((l.map fun x => (evN 40 rs x).1).length ≤ 1000) := by rw [Hid, List.length_map]; have := HDL.out.2; omega
    clear hlen hS' hI' hL' hb3 eA eE eV hd' hl' HP HDL HR HF HB2
    have B3 := Below.refl w3.heap.size w3
    generalize (l.map fun x => (evN 40 rs x).1) = vs at *
    generalize allN 40 rs l = r at *
    generalize errN 40 rs l = q at *
    generalize l.length = L at *
    generalize rs.length = N at *
    obtain ⟨r1, r2⟩ := r
    dsimp only at HAL HQA
    have C3 := Rw.dh B3
    clear B3
    go_wp2_with fail
    refine (HAL.out _ HB3.out).mono ?_
    rintro e w4 ⟨rfl, hb4⟩
    have C4 := Rw.dh (below_on C3.out hb4)
    clear hb4 HAL C3
    go_wp2_with fail
    refine (HQA.out _ C4.out).mono ?_
    rintro e w5 ⟨rfl, hb5⟩
    have C5 := Rw.dh (below_on C4.out hb5)
    clear hb5 HQA C4
    go_wp2_with fail
    refine (HRO.out _ (below_on HB3.out C5.out)).mono ?_
    rintro e w6 ⟨hb6, hW⟩
    have C6 := Rw.dh (below_on C5.out hb6)
    clear hb6 HRO C5
    rcases hW with ⟨h0, rfl⟩ | ⟨h0, a6, c6, rfl, hS6⟩
    · go_wp2_with fail
      refine (HQR.out _ C6.out).mono ?_
      rintro e w7 ⟨hb7, hW7⟩
      have C7 := Rw.dh (below_on HB3.out (below_on C6.out hb7))
      clear hb7 HQR C6
      rcases hW7 with ⟨_, rfl⟩ | ⟨h1, _⟩
      · have HSM := Rw.dh (vsame_walk none none 0 0 [] (by simp) w7 slg_none slg_none)
        have e1 : (r1 == r1) = true := beq_self_eq_true _
        have e2 : (r2 == r2) = true := beq_self_eq_true _
        have e3 : (q == q) = true := beq_self_eq_true _
        go_wp2_with fail
        refine HSM.out.mono ?_
        rintro e w8 ⟨rfl, hb8⟩
        have C8 := Rw.dh (below_on C7.out hb8)
        clear hb8 HSM
        go_wp2
        go_ret
        exact ⟨rfl, C8.out⟩
      · rw [h1] at h0; cases h0
    · subst h0
      have HS6 := Rw.dh hS6
      clear hS6
      go_wp2_with fail
      refine (HQR.out _ C6.out).mono ?_
      rintro e w7 ⟨hb7, hW7⟩
      have hS7 := HS6.out.below hb7
      have C7 := Rw.dh (below_on HB3.out (below_on C6.out hb7))
      clear hb7 HQR C6
      rcases hW7 with ⟨h1, _⟩ | ⟨_, a7, c7, rfl, hS8⟩
      · cases h1
      · have HSM := Rw.dh (vsame_walk a6 a7 c6 c7 vs HVL.out w7 hS7 hS8)
        have e1 : (r1 == r1) = true := beq_self_eq_true _
        have e2 : (r2 == r2) = true := beq_self_eq_true _
        clear hS7 hS8 HS6
        go_wp2_with fail
        refine HSM.out.mono ?_
        rintro e w8 ⟨rfl, hb8⟩
        have C8 := Rw.dh (below_on C7.out hb8)
        clear hb8 HSM
        go_wp2
        go_ret
        exact ⟨rfl, C8.out⟩
end Go.Proofs.Ytlckoenkogaibaa
