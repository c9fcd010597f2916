import Derived.Test.YtpcmiholbcmmjaaGreatMAU
set_option maxRecDepth 100000
set_option maxHeartbeats 4000000
namespace Go.Proofs.YtpcmiholbcmmjaaGreat
open Go.RowKit
open L4 (Ar ArP Abs arV nv)
theorem way_any {s : Ar} {w : World} {t r h l : Nat} {k : ByteArray} {full : List Pl} (hA : ArP s w) (ho : s.abs.Ok) (ht : TrC w t s.p r h l) (hp : Path s.abs k h r full) (hh : h <= 4096) :
 Calls Tryz.prog 50 #[.pointer (some ⟨t, 0, none⟩), .string k] w fun e w' => ∃ v Ld, e = .returned v /\ Ld.map Lay.pl = full /\ WayR w.heap.size v Ld w' /\ Below w.heap.size w w' := by
 obtain ⟨c0, c1, c2, c3, ct, cf⟩ := ht.cells
 have HA := thid hA
 have HT := thid ht
 have HP := thid hp
 have HO := thid ho
 obtain ⟨hlen, hpos⟩ := hp.pos
 have HLN := thid hlen
 clear hA ht ho hp hlen
 have hsub : (h : Int) - 1 = ((h - 1 : Nat) : Int) := by omega
 go_enter Tryz.func50, Tryz.ntmps50
 go_wp2_with fail
 clear hsub
 go_loopw [5, 6, 20] (fun u5 u6 i wr => ∃ j : Nat, j <= h - 1 /\ i = .int .i64 (j : Int) /\ ∃ (at_ : Nat) (Ld : List Lay) (rest : List Pl), u6 = .int .i64 (at_ : Int) /\ Hid (Ld.length = j /\ Ld.map Lay.pl ++ rest = full /\ Path s.abs k (h - j) at_ rest /\ WayR w.heap.size u5 Ld wr /\ Below w.heap.size w wr)) (fun _ _ i _ => h - (intOf i).toNat)
 case atStart => exact ⟨0, Nat.zero_le _, rfl, r, [], full, rfl, ⟨rfl, rfl, HP.out, ⟨⟨rfl, Or.inl ⟨rfl, rfl⟩⟩, by simp, by simp, by simp⟩, Below.refl _ _⟩⟩
 case round =>
  clear c0 c1 c2 c3
  obtain ⟨j, hj, rfl, at_, Ld, rest, rfl, HI⟩ := hrel
  by_cases hlt : j < h - 1
  · have hlt' : (j : Int) < ((h - 1 : Nat) : Int) := by omega
    obtain ⟨hl1, hl2, hl3, hl4, hl5⟩ := HI.out
    obtain ⟨m, hm⟩ : ∃ m, h - j = m + 1 + 1 := ⟨h - j - 2, by omega⟩
    rw [hm] at hl3
    cases hl3 with
    | @inner _ _ at' n rest' hn hlf hk hr =>
    have HLD := thid (load_ok (L4.arSt.below HA.out hl5) HO.out (HT.out.on hl5) hn.page hn.shaped hn.size)
    rw [hlf] at HLD
    go_wp2_with fail
    refine HLD.out.mono ?_
    rintro e w1 ⟨v, rfl, a, c, a', c', rfl, o1, o2, B1⟩
    have HR1 := thid o1
    have HK1 := thid o2
    have HB1 := thid B1
    have HW0 := thid hl4
    have HBW := thid hl5
    have HPL := thid hl2
    have HJL := thid hl1
    have HNX := thid hk
    have HRS := thid hr
    have HSM := thid hn.small
    clear HLD o1 o2 B1 hl1 hl2 hl4 hl5 hk hr hn HI
    unfold L5.nodeV
    rw [hlf]
    have hb2 := tbelow w1 (.cells #[.bool false, .slice a n.recs.length c, .slice a' n.kids.length c'] 90)
    have a2 := heap_alloc_new w1 (.cells #[.bool false, .slice a n.recs.length c, .slice a' n.kids.length c'] 90)
    have HKD := thid (L5.kid_walk (n := n) (L5.NR.mk (L5.owns_rd_slice (L5.owns_below HR1.out hb2)) (L5.owns_rd_slice (L5.owns_below HK1.out hb2))) HSM.out.recs k)
    unfold L5.nodeV at HKD
    rw [hlf] at HKD
    have HB2 := thid hb2
    clear hb2
    go_wp2_with fail
    refine HKD.out.mono ?_
    rintro e w3 ⟨rfl, B3⟩
    have a3 : w3.heap[w1.heap.size]? = some (.cells #[.bool false, .slice a n.recs.length c, .slice a' n.kids.length c'] 90 (0, 0)) := (B3.block _ (by simp)).trans a2
    have HB3 := thid (tbelow_on HB2.out B3)
    clear HKD B3 a2 HB2
    have y0 : w3.cell? ⟨w1.heap.size, 0, none⟩ = some (.bool false) := by rw [cell_of_row _ _ _ _ _ _ a3]; rfl
    have y1 : w3.cell? ⟨w1.heap.size, 1, none⟩ = some (.slice a n.recs.length c) := by rw [cell_of_row _ _ _ _ _ _ a3]; rfl
    have y2 : w3.cell? ⟨w1.heap.size, 2, none⟩ = some (.slice a' n.kids.length c') := by rw [cell_of_row _ _ _ _ _ _ a3]; rfl
    have yl := (Array.getElem?_eq_some_iff.1 a3).1
    obtain ⟨i0, hi0⟩ : ∃ i0, Hid (n.recs.countP (L5.leB k) = i0) := ⟨_, rfl⟩
    rw [hi0.out]
    have HB4 := thid (tbelow w3 (.cells #[.int .i64 (at_ : Int), .bool false, .slice a n.recs.length c, .slice a' n.kids.length c', .int .i64 (i0 : Int)] 100))
    go_wp2_with (first
     | (at_builtin
        revert HB4)
     | fail)
    intro HB4
    have hbw := tbelow_on (tbelow_on HB1.out HB3.out) HB4.out
    have hB0 := HBW.out.size
    have HW4 := thid (HW0.out.on hbw)
    have hjl := HJL.out
    refine append_step w.heap.size (Nat.le_trans hB0 hbw.size) rfl _ _ rfl u5 Ld.length (Ld.flatMap Lay.cells) [.int .i64 (at_ : Int), .bool false, .slice a n.recs.length c, .slice a' n.kids.length c', .int .i64 (i0 : Int)] rfl HW4.out.row (by omega) ⟨w3.heap.size, 0, none⟩ 1 rfl rfl (fun i u hi => by
     rw [Addr.add_lit, cell_of_row _ _ _ _ _ _ (heap_alloc_new _ _)]
     simpa using hi) (by simp; exact ⟨rfl, rfl, rfl, rfl, rfl⟩) ?_
    intro v5 w5 hown hg
    have yr := L5.owns_below (L5.owns_below HR1.out HB3.out) HB4.out
    have yk := L5.owns_below (L5.owns_below HK1.out HB3.out) HB4.out
    have HW5 := thid (HW0.out.more (y0 := ⟨at_, n, .slice a n.recs.length c, .slice a' n.kids.length c', i0⟩) hbw hB0 rfl (by unfold Lay.cells nv; rw [hlf]; exact hown) hg yr yk)
    have a4 := (HB4.out.block _ yl).trans a3
    have a5 : w5.heap[w1.heap.size]? = some (.cells #[.bool false, .slice a n.recs.length c, .slice a' n.kids.length c'] 90 (0, 0)) := (hg.block _ (Nat.lt_of_lt_of_le yl HB4.out.size) (fun e => row_ne a4 HW4.out.row (by decide) e.symm)).trans a4
    have z2 : w5.cell? ⟨w1.heap.size, 2, none⟩ = some (.slice a' n.kids.length c') := by rw [cell_of_row _ _ _ _ _ _ a5]; rfl
    have zl := (Array.getElem?_eq_some_iff.1 a5).1
    have hnx := HNX.out
    rw [hi0.out] at hnx
    have hkl : i0 < n.kids.length := (List.getElem?_eq_some_iff.1 hnx).1
    have yk5 := (L5.owns_rd_slice (HW5.out.rk ⟨at_, n, .slice a n.recs.length c, .slice a' n.kids.length c', i0⟩ (by simp))).2.2 i0 (.int .i64 (at' : Int)) (by simp [L5.ivs, hnx, L5.iv])
    obtain ⟨kb, ko, rfl, kbl, kbc⟩ := yk5
    have hB5 : Hid (Below w.heap.size w w5) := by
     refine ⟨hg.os.trans (hbw.os.trans HBW.out.os), hg.tape.trans (hbw.tape.trans HBW.out.tape), hg.output.trans (hbw.output.trans HBW.out.output), Nat.le_trans hB0 (Nat.le_trans hbw.size hg.size), fun q hq => ?_⟩
     rw [hg.block q (Nat.lt_of_lt_of_le hq (Nat.le_trans hB0 hbw.size)) (fun e => by have := (HW4.out.row.lt q e.symm).1; omega), hbw.block q (Nat.lt_of_lt_of_le hq hB0)]
     exact HBW.out.block q hq
    have hkl' : (i0 : Int) < (n.kids.length : Int) := by omega
    clear hown hg yr yk a4 a5 a3 hbw HW4 HW0 HR1 HK1 HB1 HB3 HB4 y0 y1 y2 yl HBW
    go_wp2
    refine ⟨⟨j + 1, by omega, by go_num, at', Ld ++ [⟨at_, n, .slice a n.recs.length c, .slice (some ⟨kb, ko, none⟩) n.kids.length c', i0⟩], rest', rfl, ⟨by simp [hjl], ?_, ?_, HW5.out, hB5.out⟩⟩, by simp [intOf]; omega⟩
    · rw [<- HPL.out, List.map_append, List.append_assoc]
      simp [Lay.pl, hi0.out]
    · rw [show h - (j + 1) = m + 1 by omega]
      exact HRS.out
  · have hlt' : ((h - 1 : Nat) : Int) <= (j : Int) := by omega
    have hjh : j = h - 1 := by omega
    subst hjh
    obtain ⟨hl1, hl2, hl3, hl4, hl5⟩ := HI.out
    rw [show h - (h - 1) = 1 by omega] at hl3
    cases hl3 with
    | inner _ _ _ hr => exact absurd hr.pos.2 (by omega)
    | @leaf _ n hn hlf =>
    have HLD := thid (load_ok (L4.arSt.below HA.out hl5) HO.out (HT.out.on hl5) hn.page hn.shaped hn.size)
    rw [hlf] at HLD
    have HW0 := thid hl4
    have HBW := thid hl5
    have HPL := thid hl2
    have HJL := thid hl1
    clear hl1 hl2 hl4 hl5 HI hn
    go_wp2_with fail
    refine HLD.out.mono ?_
    rintro e w1 ⟨v, rfl, a, c, a', c', rfl, o1, o2, B1⟩
    have HO1 := thid o1
    have HO2 := thid o2
    have HB1 := thid B1
    unfold L5.nodeV
    clear HLD o1 o2 B1
    have HB2 := thid (tbelow w1 (.cells #[.int .i64 (at_ : Int), .bool true, .slice a n.recs.length c, .slice a' n.kids.length c', .int .i64 0] 100))
    rw [hlf]
    go_wp2_with (first
     | (at_builtin
        revert HB2)
     | fail)
    intro HB2
    have hbw := tbelow_on HB1.out HB2.out
    have hB0 := HBW.out.size
    have HW4 := thid (HW0.out.on hbw)
    have hjl := HJL.out
    refine append_step w.heap.size (Nat.le_trans hB0 hbw.size) rfl _ _ rfl u5 Ld.length (Ld.flatMap Lay.cells) [.int .i64 (at_ : Int), .bool true, .slice a n.recs.length c, .slice a' n.kids.length c', .int .i64 0] rfl HW4.out.row (by omega) ⟨w1.heap.size, 0, none⟩ 1 rfl rfl (fun i u hi => by
     rw [Addr.add_lit, cell_of_row _ _ _ _ _ _ (heap_alloc_new _ _)]
     simpa using hi) (by simp; exact ⟨rfl, rfl, rfl, rfl, rfl⟩) ?_
    intro v5 w5 hown hg
    have HW5 := thid (HW0.out.more (y0 := ⟨at_, n, .slice a n.recs.length c, .slice a' n.kids.length c', 0⟩) hbw hB0 rfl (by unfold Lay.cells nv; rw [hlf]; exact hown) hg (L5.owns_below HO1.out HB2.out) (L5.owns_below HO2.out HB2.out))
    have hB5 : Hid (Below w.heap.size w w5) := by
     refine ⟨hg.os.trans (hbw.os.trans HBW.out.os), hg.tape.trans (hbw.tape.trans HBW.out.tape), hg.output.trans (hbw.output.trans HBW.out.output), Nat.le_trans hB0 (Nat.le_trans hbw.size hg.size), fun q hq => ?_⟩
     rw [hg.block q (Nat.lt_of_lt_of_le hq (Nat.le_trans hB0 hbw.size)) (fun e => by have := (HW4.out.row.lt q e.symm).1; omega), hbw.block q (Nat.lt_of_lt_of_le hq hB0)]
     exact HBW.out.block q hq
    clear hown hg hbw HW4 HW0 HO1 HO2 HB1 HB2 HBW
    go_wp2
    go_ret
    refine ⟨v5, Ld ++ [⟨at_, n, .slice a n.recs.length c, .slice a' n.kids.length c', 0⟩], rfl, ?_, HW5.out, hB5.out⟩
    rw [<- HPL.out, List.map_append]
    rfl
end Go.Proofs.YtpcmiholbcmmjaaGreat
