import Derived.Test.YtdaikppppkbfoaaMBX
import Derived.Test.YtdaikppppkbfoaaMBY
import Derived.Test.YtdaikppppkbfoaaMBZ
set_option maxRecDepth 100000
set_option maxHeartbeats 4000000
namespace Go.Proofs.Ytdaikppppkbfoaa
open Go.RowKit
set_option linter.unusedSimpArgs false in
theorem predMeets_walk (k: CondL) (r: RowL) (w: World) (hI: CdIn w k) (hR: Rw.SlG vvC 3 w r.a r.l) (hF: r.l.length <= maxLen /\ ∀ v ∈ r.l,VFit v)
 (hA0: ∀ W,Calls Try.prog 23 #[] W fun e W' => e = .returned (.bool true) /\ Below W.heap.size W W') :
 Calls Try.prog 5 #[cdV k, .slice r.a r.l.length r.c] w fun e W => e = .returned (.bool true) /\ Below w.heap.size w W := by
 have HA := Rw.dh hA0
 have HI := Rw.dh (fun W (hb: Below w.heap.size w W) => hI.on hb)
 have HR := Rw.dh (fun W (hb: Below w.heap.size w W) => hR.below hb)
 have HF := Rw.dh hF
 clear hA0 hI hR hF
 have HG := Rw.dh (fun W (hb: Below w.heap.size w W) => great_walk k (HI.out W hb))
 unfold cdV at HG ⊢
 go_enter Try.func5,Try.ntmps5
 go_wp2_with fail
 refine (HA.out _).mono ?_
 rintro e w1 ⟨rfl,hb1⟩
 have HB1 := Rw.dh (below_on (Rw.below_alloc w _) hb1)
 have HC1 := Rw.dh ((hb1.block w.heap.size (by simp)).trans (Rw.heap_new w (.cells #[.slice k.a k.ts.length k.c, .slice k.b k.l.length k.d] 78)))
 clear hb1
 have c0: w1.cell? ⟨w.heap.size,0,none⟩ = some (.slice k.a k.ts.length k.c) := by rw [cell_of_row _ _ _ _ _ _ HC1.out]; rfl
 have c1: w1.cell? ⟨w.heap.size,1,none⟩ = some (.slice k.b k.l.length k.d) := by rw [cell_of_row _ _ _ _ _ _ HC1.out]; rfl
 go_wp2_with fail
 refine (HG.out _ HB1.out).mono ?_
 rintro e w2 ⟨B,rfl,hB,hb2⟩
 have HB2 := Rw.dh (below_on HB1.out hb2)
 have HBB := Rw.dh hB
 have HC2 := Rw.dh ((hb2.block _ (Array.getElem?_eq_some_iff.1 HC1.out).1).trans HC1.out)
 clear hb2 hB HB1 HG c0 c1 HC1
 have c0: w2.cell? ⟨w.heap.size,0,none⟩ = some (.slice k.a k.ts.length k.c) := by rw [cell_of_row _ _ _ _ _ _ HC2.out]; rfl
 have c1: w2.cell? ⟨w.heap.size,1,none⟩ = some (.slice k.b k.l.length k.d) := by rw [cell_of_row _ _ _ _ _ _ HC2.out]; rfl
 cases B with
 | true =>
  go_wp2
  go_ret
  exact ⟨rfl,HB2.out⟩
 | false =>
  by_cases h30: 30 < r.l.length
  · have h30': (30: Int) < (r.l.length: Int) := by omega
    go_wp2
    go_ret
    exact ⟨rfl,HB2.out⟩
  have hd := (HBB.out rfl).1
  have hl := (HBB.out rfl).2.1
  have ht := (HBB.out rfl).2.2
  have h30': decide (30 < (r.l.length: Int)) = false := decide_eq_false (by omega)
  have HM := Rw.dh (fun W (hb: Below w.heap.size w W) => meets_walk (n := 30) (by decide) k r (HI.out W hb) (by omega) hd (by omega) (HR.out W hb) HF.out)
  have HP := Rw.dh (fun W (hb: Below w.heap.size w W) => plainC_walk 30 k (HI.out W hb) (by omega) hd)
  unfold cdV at HM HP
  go_wp2_with fail
  have KS: Hid (∀ W',Below w2.heap.size w2 W' -> (fun W => W.cell? ⟨w.heap.size,0,none⟩ = some (.slice k.a k.ts.length k.c) /\ W.cell? ⟨w.heap.size,1,none⟩ = some (.slice k.b k.l.length k.d)) W') := fun W' hb => by
   have g := (hb.block _ (Array.getElem?_eq_some_iff.1 HC2.out).1).trans HC2.out
   exact ⟨by rw [cell_of_row _ _ _ _ _ _ g]; rfl,by rw [cell_of_row _ _ _ _ _ _ g]; rfl⟩
  have HD := Rw.dh (And.intro hd (And.intro hl ht))
  clear c0 c1 HBB HC2 HI hd hl ht
  have B0: Below w2.heap.size w2 w2.drew := (Below.refl _ w2).drew
  refine wp_region_held_drew (S := fun W => W.cell? ⟨w.heap.size,0,none⟩ = some (.slice k.a k.ts.length k.c) /\ W.cell? ⟨w.heap.size,1,none⟩ = some (.slice k.b k.l.length k.d)) (by kernel_rfl) (KS.out _ B0) (fun hS => ?_)
  refine wpAnyH_take (i := 0) (v := ?_) rfl (by kernel_rfl) (by kernel_rfl) (by kernel_rfl) (fun _ _ _ h => h) (Or.inl ⟨by rfl, ?_⟩) (by assumption) ?_
  rotate_left
  · intro w' hSw
    (try dsimp only at hSw)
    go_simp
    (try with_reducible rfl)
  (try simp only [Act.put,List.getElem_toArray,List.getElem_cons_succ,List.getElem_cons_zero,HeT.pT])
  refine wpAnyH_take (i := 1) (v := ?_) rfl (by kernel_rfl) (by kernel_rfl) (by kernel_rfl) (fun _ _ _ h => h) (Or.inl ⟨by rfl, ?_⟩) (by assumption) ?_
  rotate_left
  · intro w' hSw
    (try dsimp only at hSw)
    go_simp
    (try with_reducible rfl)
  (try simp only [Act.put,List.getElem_toArray,List.getElem_cons_succ,List.getElem_cons_zero,HeT.pT])
  refine wpAnyH_take (i := 3) (v := ?_) rfl (by kernel_rfl) (by kernel_rfl) (by kernel_rfl) (fun _ _ _ h => h) (Or.inl ⟨by rfl, ?_⟩) (by assumption) ?_
  rotate_left
  · intro w' hSw
    (try dsimp only at hSw)
    go_simp
    (try with_reducible rfl)
  (try simp only [Act.put,List.getElem_toArray,List.getElem_cons_succ,List.getElem_cons_zero,HeT.pT])
  refine wpAnyH_take (i := 5) (v := ?_) rfl (by kernel_rfl) (by kernel_rfl) (by kernel_rfl) (fun _ _ _ h => h) (Or.inl ⟨by rfl, ?_⟩) (by assumption) ?_
  rotate_left
  · intro w' hSw
    (try dsimp only at hSw)
    go_simp
    (try with_reducible rfl)
  (try simp only [Act.put,List.getElem_toArray,List.getElem_cons_succ,List.getElem_cons_zero,HeT.pT])
  refine wpAnyH_ready (rs := [2]) (by kernel_rfl) (by simp) ?_
  refine AllReadyH.cons rfl (fun K hK => ?_) AllReadyH.nil
  go_simp
  refine (HM.out _ (below_on HB2.out (Below.refl _ w2).drew)).mono ?_
  rintro e w3 ⟨rfl,hb3⟩
  have B3: Below w2.heap.size w2 w3 := B0.trans (hb3.mono B0.size)
  refine hK.out _ _ (KS.out _ B3) (fun hS => ?_)
  clear hK K
  (try simp only [Act.put,List.getElem_toArray,List.getElem_cons_succ,List.getElem_cons_zero,HeT.pT])
  refine wpAnyH_ready (rs := [4]) (by kernel_rfl) (by simp) ?_
  refine AllReadyH.cons rfl (fun K hK => ?_) AllReadyH.nil
  go_simp
  refine (HP.out _ (below_on HB2.out B3)).mono ?_
  rintro e w4 ⟨k',rfl,hts,hle,hlk,hci,hb4⟩
  have B4: Below w2.heap.size w2 w4 := B3.trans (hb4.mono B3.size)
  refine hK.out _ _ (KS.out _ B4) (fun hS => ?_)
  clear hK K
  have hd': ∀ x ∈ k'.l,deepN 30 x = false := fun x hx => by
   obtain ⟨j,hj⟩ := List.mem_iff_getElem?.1 hx
   have hjl: j < k.l.length := by have := (List.getElem?_eq_some_iff.1 hj).1; omega
   have hx' := List.getElem?_eq_getElem hjl
   rw [<- (hlk j _ x hx' hj).deep]
   exact HD.out.1 _ (List.mem_of_getElem? hx')
  have HRm := rmeets_walk (n := 30) k' r hci (by rw [hts]; have := HD.out.2.2; omega) hd' (by rw [hle]; have := HD.out.2.1; omega) (HR.out _ (below_on HB2.out B4)) HF.out
  have hEq: meetsC 30 r k'.ts k'.l = meetsC 30 r k.ts k.l := by
   unfold meetsC
   rw [hts,(allN_like [r] hle.symm hlk).1]
  rw [hEq] at HRm
  have HRM := Rw.dh HRm
  unfold cdV at HRM
  clear HRm hEq hd' hts hle hlk hci hb4 hb3
  unfold cdV
  (try simp only [Act.put,List.getElem_toArray,List.getElem_cons_succ,List.getElem_cons_zero,HeT.pT])
  refine wpAnyH_ready (rs := [6]) (by kernel_rfl) (by simp) ?_
  refine AllReadyH.cons rfl (fun K hK => ?_) AllReadyH.nil
  go_simp
  refine HRM.out.mono ?_
  rintro e w5 ⟨rfl,hb5⟩
  have B5: Below w2.heap.size w2 w5 := B4.trans (hb5.mono B4.size)
  refine hK.out _ _ (KS.out _ B5) (fun hS => ?_)
  clear hK K
  (try simp only [Act.put,List.getElem_toArray,List.getElem_cons_succ,List.getElem_cons_zero,HeT.pT])
  refine wpAnyH_take (i := 7) (v := ?_) rfl (by kernel_rfl) (by kernel_rfl) (by kernel_rfl) (fun _ _ _ h => h) (Or.inl ⟨by rfl, ?_⟩) (by assumption) ?_
  rotate_left
  · intro w' hSw
    (try dsimp only at hSw)
    go_simp
    (try with_reducible rfl)
  (try simp only [Act.put,List.getElem_toArray,List.getElem_cons_succ,List.getElem_cons_zero,HeT.pT])
  refine wpAnyH_take (i := 8) (v := ?_) rfl (by kernel_rfl) (by kernel_rfl) (by kernel_rfl) (fun _ _ _ h => h) (Or.inl ⟨by rfl, ?_⟩) (by assumption) ?_
  rotate_left
  · intro w' hSw
    (try dsimp only at hSw)
    go_simp
    (try with_reducible rfl)
  (try simp only [Act.put,List.getElem_toArray,List.getElem_cons_succ,List.getElem_cons_zero,HeT.pT])
  refine wpAnyH_done (by kernel_rfl) ?_ _
  have HB5 := Rw.dh (below_on HB2.out B5)
  go_wp2
  go_ret
  exact ⟨rfl,HB5.out⟩
end Go.Proofs.Ytdaikppppkbfoaa
